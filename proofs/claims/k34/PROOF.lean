import PyProof.Rows.All
import Wide.All
import OpenK.AllK
import Wide.FinOn
import HandS.ForMost
import HandS.ForExc
import KE.KStateDown
import HandS.Head0
import HandS.Head1
import HandS.Head2
import HandS.HeadEnd
import HandS.HeadHook1
import HandS.HeadHook2
import HandS.Walk
import HandS.TupAny
import HandS.Flow
import HandS.Star
import HandS.Wide
import HandS.TupMul
import HandS.TupLe
import HandS.SortInts
import HandS.Small
import HandS.Conv
import HandS.WordsDict
import HandS.IsInst
import HandS.RaiseMore
import HandS.SetFor
import HandS.Strs
import HandS.More
import HandS.Style
import HandS.Rev
import HandS.Zip
import HandS.Property
import HandS.ClsMeth
import KE.KOpsOwn
import PyProof.InstNe
import HandS.ListItems
import HandS.DictComp
import HandS.OwnEq
import KE.GoesEnum
import HandS.RevRange
import KE.GoesZip
import HandS.TryOnly
import HandS.ExcOwn
import PyProof.ExcBaseAll.ValueError
import HandS.GenList
import KE.KDictDisplayH
import HandS.TupLen
import HandS.Deep
import PySem.Challenge.RW_tellsome_k34_by_hand
set_option Elab.async false
set_option linter.all false
set_option maxRecDepth 100000
set_option maxHeartbeats 2000000
namespace Ev
open PySem PySem.Spec PyProof.Rows L2
/-! ### the head: what the top leaves, read by a hook of one's own -/
structure DefC where
  ad : PySem.W.Frag → Addr
  name : Str
  qual : Str
  st : Stmt
abbrev FnC : Type := Option (Str × Str × Arguments × FuncBody × Scope × Addr × List (Str × Addr) × Value × Addr)
def fnC (K : PySem.W.Frag) (a : Addr) : FnC := match K.lookup a with
  | some ⟨_, _, .func fd, _⟩ => some (fd.name, fd.qualname, fd.params, fd.body, fd.scope, fd.globals, fd.closure, fd.defaults, fd.builtins)
  | _ => none
def DefC.val (d : DefC) : FnC := some (d.name, d.qual, defArgs d.st, .stmts (defBody d.st), defScope d.st, mainGlobals, [], .none, builtinsNs)
def DefC.ok (K : PySem.W.Frag) (d : DefC) : Bool := PySem.W.keepIn K (.ref (d.ad K)) && (match K.lookup (d.ad K) with
  | some ⟨_, _, .func fd, _⟩ => PySem.W.codeIn K fd.code d.qual
  | _ => false)
def frO {β : Type} (o : Obj) (k : Obj → β) : β := match o with
  | ⟨c, d, dt, sl⟩ => match dt with
    | .func fd => k ⟨c, d, .func fd, sl⟩
    | .cls cd => k ⟨c, d, .cls cd, sl⟩
    | .dict es n => k ⟨c, d, .dict es n, sl⟩
    | .seq es n => k ⟨c, d, .seq es n, sl⟩
    | .fields es => k ⟨c, d, .fields es, sl⟩
    | dt => k ⟨c, d, dt, sl⟩
theorem frO_eq {β : Type} (o : Obj) (k : Obj → β) : frO o k = k o := by
  obtain ⟨c, d, dt, sl⟩ := o
  cases dt <;> rfl
def frF {β : Type} : PySem.W.Frag → (PySem.W.Frag → β) → β
  | [], k => k []
  | (a, o) :: r, k => HandSHeadRun.frNat a fun a => frO o fun o => frF r fun r => k ((a, o) :: r)
theorem frF_eq {β : Type} : ∀ (l : PySem.W.Frag) (k : PySem.W.Frag → β), frF l k = k l
  | [], k => rfl
  | (a, o) :: r, k => by
    show HandSHeadRun.frNat a (fun a => frO o fun o => frF r fun r => k ((a, o) :: r)) = _
    rw [HandSHeadRun.frNat_eq, frO_eq, frF_eq r]
abbrev AlC : Type := Bool × List FnC
def obsC (chk : PySem.W.Frag → List Bool) (fn : List DefC) (K : PySem.W.Frag) : AlC := ((chk K).all id && fn.all fun d => d.ok K, fn.map fun d => fnC K (d.ad K))
def valC (fn : List DefC) : AlC := (true, fn.map DefC.val)
def SaysC (chk : PySem.W.Frag → List Bool) (fn : List DefC) (K : PySem.W.Frag) : Prop := obsC chk fn K = valC fn
def obsCG (n : Nat) (chk : PySem.W.Frag → List Bool) (fn : List DefC) (g : Addr → Option Obj) : AlC := frF (He.frG g (List.range n)) (obsC chk fn)
def hookC (n : Nat) (chk : PySem.W.Frag → List Bool) (fn : List DefC) : PySem.W.Hook where
  α := AlC
  obs := fun s => obsCG n chk fn s.heap.get?
  val := fun _ => valC fn
  says := fun _ h => ∃ K : PySem.W.Frag, K.In h ∧ SaysC chk fn K
  of := fun _ _ e => ⟨_, He.frG_in, by
    unfold obsCG at e
    rw [frF_eq] at e
    exact e⟩
  keeps := fun _ _ _ ⟨K, hK, c⟩ k => ⟨K, PySem.W.Frag.In.keeps hK k, c⟩
theorem obsCG_eq {n : Nat} {chk : PySem.W.Frag → List Bool} {fn : List DefC} {g : Addr → Option Obj} {s : Shared} (h : ∀ a, g a = s.heap.get? a) : obsCG n chk fn g = (hookC n chk fn).obs s := by
  have e : g = s.heap.get? := funext h
  rw [e] <;> rfl
def recAd (K : PySem.W.Frag) (p : Addr) (n : String) : Addr := match PySem.W.recIn K p n with
  | some (.ref g :: _) => g
  | _ => 0
def recB (K : PySem.W.Frag) (p : Addr) (n : String) : Bool := match PySem.W.recIn K p n with
  | some (.ref _ :: _) => true
  | _ => false
def bCls (K : PySem.W.Frag) (C : Addr) : Bool := PySem.W.plainGet K C Str.empty && (PySem.W.hasDictIn K C && (PySem.W.plainOver K C && He.eqO (PySem.W.findIn K (.ref C) "__setattr__") (some (some (.builtin "object.__setattr__")))))
def bClsI (K : PySem.W.Frag) (C : Addr) : Bool := bCls K C && (He.eqO (PySem.W.findIn K (.ref C) "__class__") (some (some (.builtin "object.__class__"))) && (He.eqO (PySem.W.specialIn K (.builtin "object.__class__") "__get__") (some (some (.builtin "getset_descriptor.__get__"))) &&
  (decide (PySem.W.takesIn K (.builtin "object.__class__") = some true) && decide (PySem.W.mroIn K C (.type "object") = some true))))
def bFnd (K : PySem.W.Frag) (C : Addr) (m : Str) (f : Addr) : Bool := He.eqO (PySem.W.findIn K (.ref C) m) (some (some (.ref f)))
def bOwn (K : PySem.W.Frag) (C : Addr) (m : Str) (f : Addr) : Bool := bFnd K C m f && PySem.W.isFn K (.ref f)
def bMeth (K : PySem.W.Frag) (C : Addr) (m : Str) (f : Addr) : Bool := bOwn K C m f && PySem.W.keepIn K (.ref f)
def bMk (K : PySem.W.Frag) (C : Addr) (f : Addr) : Bool := PySem.W.makesIn K C && (bOwn K C "__init__" f && PySem.W.keepIn K (.ref C))
def bProp (K : PySem.W.Frag) (C : Addr) (m : Str) (p : Addr) : Bool := bFnd K C m p && (He.eqO (PySem.W.specialIn K (.ref p) "__get__") (some (some (.builtin "property.__get__"))) && (decide (PySem.W.takesIn K (.ref p) = some true) && recB K p "property"))
def bCRead (K : PySem.W.Frag) (C : Addr) : Bool := PySem.W.readsIn K C (.type "type") && He.eqO (PySem.W.specialIn K (.ref C) "__getattribute__") (some (some (.builtin "type.__getattribute__")))
def isGetOf (C p : Addr) : Option PySem.W.CFound → Bool
  | some (.get (.builtin b) (.ref q) .none (.ref D)) => b == "classmethod.__get__" && (decide (q = p) && decide (D = C))
  | _ => false
def bCMet (K : PySem.W.Frag) (C : Addr) (m : Str) (p : Addr) : Bool := isGetOf C p (PySem.W.findCls K (.ref C) (.type "type") m) && (recB K p "classmethod" && PySem.W.fnIn K (recAd K p "classmethod"))
def bCallO (K : PySem.W.Frag) (C g : Addr) : Bool := bOwn K C "__call__" g && PySem.W.fnIn K g
def bStr (K : PySem.W.Frag) (x z : Str) : Bool := match PySem.W.nsIn K mainGlobals x with
    | some (some (.str y _)) => decide (y = z)
    | _ => false
end Ev
namespace Pf
open PySem PySem.Spec PyProof.Rows L2 Ev
abbrev top (i : Nat) : Stmt := PySem.Challenge.pw_tellsome_k34_by_hand.main.body.getD i (.Pass ⟨0, 0, 0, 0⟩)
def tyT : List String := ["NoneType", "bool", "int", "str", "tuple", "list", "dict"]
def tyC : List String := ["bool", "int", "str", "tuple", "list", "dict"]
abbrev s_is_number : Stmt := top 10
abbrev s_are_numbers : Stmt := top 11
abbrev s_is_name : Stmt := top 12
abbrev s_is_one_of : Stmt := top 13
abbrev s_is_chain : Stmt := top 14
abbrev s_Claim_init : Stmt := inClass (top 16) 0
abbrev s_Claim_neg : Stmt := inClass (top 16) 6
abbrev s_Claim_sure : Stmt := inClass (top 16) 1
abbrev s_Claim_total : Stmt := inClass (top 16) 2
abbrev s_Claim_worlds : Stmt := inClass (top 16) 3
abbrev s_is_claim : Stmt := top 20
abbrev s_check_partner : Stmt := top 18
abbrev s_Claim_and : Stmt := inClass (top 16) 4
abbrev s_Claim_or : Stmt := inClass (top 16) 5
abbrev s_Claim_contains : Stmt := inClass (top 16) 7
abbrev s_Claim_len : Stmt := inClass (top 16) 8
abbrev s_Claim_eq : Stmt := inClass (top 16) 9
abbrev s_is_goal : Stmt := top 27
abbrev s_are_goals : Stmt := top 26
abbrev s_is_sentence : Stmt := top 25
abbrev s_are_sentences : Stmt := top 24
abbrev s_are_sights : Stmt := top 23
abbrev s_are_people : Stmt := top 22
abbrev s_are_world_and_count : Stmt := top 21
abbrev s_Scene_init : Stmt := inClass (top 17) 0
abbrev s_Scene_actual : Stmt := inClass (top 17) 1
abbrev s_Scene_fact : Stmt := inClass (top 17) 2
abbrev s_Scene_people : Stmt := inClass (top 17) 3
abbrev s_Scene_names : Stmt := inClass (top 17) 4
abbrev s_Scene_goals : Stmt := inClass (top 17) 5
abbrev s_Scene__sentence : Stmt := inClass (top 17) 9
abbrev s_Scene_getitem : Stmt := inClass (top 17) 6
abbrev s_Scene_iter : Stmt := inClass (top 17) 7
abbrev s_Scene_cost : Stmt := inClass (top 17) 8
abbrev s_Scene_contains : Stmt := inClass (top 17) 10
abbrev s_Scene_len : Stmt := inClass (top 17) 11
abbrev s_Scene_in_order : Stmt := inClass (top 17) 15
abbrev s_Scene_check_set : Stmt := inClass (top 17) 14
abbrev s_Scene_remaining : Stmt := inClass (top 17) 13
abbrev s_Scene_call : Stmt := inClass (top 17) 12
abbrev s_Scene_sees : Stmt := inClass (top 17) 16
abbrev s_Scene_eq : Stmt := inClass (top 17) 17
abbrev s_check_scene : Stmt := top 19
abbrev s_is_fact_in : Stmt := top 41
abbrev s_confused : Stmt := top 36
abbrev s_smallest_circle : Stmt := top 37
abbrev s_worlds_left : Stmt := top 35
abbrev s_holds : Stmt := top 29
abbrev s_path_through : Stmt := top 38
abbrev s_evidence : Stmt := top 30
abbrev s_meets : Stmt := top 31
abbrev s_has_all : Stmt := top 40
abbrev s_is_ring : Stmt := top 39
abbrev s_is_circle : Stmt := top 32
abbrev s_is_path : Stmt := top 33
abbrev s_unmet_goals : Stmt := top 34
abbrev s_Telling_init : Stmt := inClass (top 43) 0
abbrev s_is_proof : Stmt := top 59
abbrev s_is_doubt : Stmt := top 58
abbrev s_are_doubts : Stmt := top 57
abbrev s_are_reasons : Stmt := top 56
abbrev s_sets_of : Stmt := top 51
abbrev s_all_sets : Stmt := top 50
abbrev s_set_cost : Stmt := top 49
abbrev s_cheaper_sets : Stmt := top 52
abbrev s_Telling_shows : Stmt := inClass (top 43) 1
abbrev s_Telling_eq : Stmt := inClass (top 43) 2
abbrev s_NoTelling_init : Stmt := inClass (top 44) 0
abbrev s_NoTelling_shows : Stmt := inClass (top 44) 1
abbrev s_NoTelling_eq : Stmt := inClass (top 44) 2
abbrev s_doubt_about : Stmt := top 55
abbrev s_doubts_about : Stmt := top 54
abbrev s_good_sets : Stmt := top 46
abbrev s_cheapest : Stmt := top 45
abbrev s_extensions : Stmt := top 53
abbrev s_breaches : Stmt := top 47
abbrev s_rescues : Stmt := top 48
abbrev s_law_scene : Stmt := top 61
abbrev s_law_claims_right : Stmt := top 62
abbrev s_law_knowing_right : Stmt := top 63
abbrev s_law_evidence_right : Stmt := top 64
abbrev s_law_tellings_right : Stmt := top 65
abbrev s_law_answers_right : Stmt := top 66
abbrev s_law : Stmt := top 67
def Gam (K : PySem.W.Frag) : Nat → Addr
  | 0 => He.ga K "Claim"
  | 1 => He.ga K "Scene"
  | 2 => He.ga K "Telling"
  | 3 => He.ga K "NoTelling"
  | 10 => He.ga K "TellError"
  | 16 => He.ga K "BadWorlds"
  | _ => 0
def Phi (K : PySem.W.Frag) : Nat → Addr
  | 1 => He.ga K "is_number"
  | 2 => He.ga K "are_numbers"
  | 3 => He.ga K "is_name"
  | 4 => He.ga K "is_one_of"
  | 5 => He.ga K "is_chain"
  | 6 => He.ma K (He.ga K "Claim") "__init__"
  | 12 => He.ma K (He.ga K "Claim") "__neg__"
  | 7 => recAd K (He.ma K (He.ga K "Claim") "sure") "classmethod"
  | 8 => recAd K (He.ma K (He.ga K "Claim") "total") "property"
  | 9 => recAd K (He.ma K (He.ga K "Claim") "worlds") "property"
  | 36 => He.ga K "is_claim"
  | 34 => He.ga K "check_partner"
  | 10 => He.ma K (He.ga K "Claim") "__and__"
  | 11 => He.ma K (He.ga K "Claim") "__or__"
  | 13 => He.ma K (He.ga K "Claim") "__contains__"
  | 14 => He.ma K (He.ga K "Claim") "__len__"
  | 15 => He.ma K (He.ga K "Claim") "__eq__"
  | 43 => He.ga K "is_goal"
  | 42 => He.ga K "are_goals"
  | 41 => He.ga K "is_sentence"
  | 40 => He.ga K "are_sentences"
  | 39 => He.ga K "are_sights"
  | 38 => He.ga K "are_people"
  | 37 => He.ga K "are_world_and_count"
  | 16 => He.ma K (He.ga K "Scene") "__init__"
  | 17 => recAd K (He.ma K (He.ga K "Scene") "actual") "property"
  | 18 => recAd K (He.ma K (He.ga K "Scene") "fact") "property"
  | 19 => recAd K (He.ma K (He.ga K "Scene") "people") "property"
  | 20 => recAd K (He.ma K (He.ga K "Scene") "names") "property"
  | 21 => recAd K (He.ma K (He.ga K "Scene") "goals") "property"
  | 25 => He.ma K (He.ga K "Scene") "_sentence"
  | 22 => He.ma K (He.ga K "Scene") "__getitem__"
  | 23 => He.ma K (He.ga K "Scene") "__iter__"
  | 24 => He.ma K (He.ga K "Scene") "cost"
  | 26 => He.ma K (He.ga K "Scene") "__contains__"
  | 27 => He.ma K (He.ga K "Scene") "__len__"
  | 31 => He.ma K (He.ga K "Scene") "in_order"
  | 30 => He.ma K (He.ga K "Scene") "check_set"
  | 29 => He.ma K (He.ga K "Scene") "remaining"
  | 28 => He.ma K (He.ga K "Scene") "__call__"
  | 32 => He.ma K (He.ga K "Scene") "sees"
  | 33 => He.ma K (He.ga K "Scene") "__eq__"
  | 35 => He.ga K "check_scene"
  | 56 => He.ga K "is_fact_in"
  | 51 => He.ga K "confused"
  | 52 => He.ga K "smallest_circle"
  | 50 => He.ga K "worlds_left"
  | 44 => He.ga K "holds"
  | 53 => He.ga K "path_through"
  | 45 => He.ga K "evidence"
  | 46 => He.ga K "meets"
  | 55 => He.ga K "has_all"
  | 54 => He.ga K "is_ring"
  | 47 => He.ga K "is_circle"
  | 48 => He.ga K "is_path"
  | 49 => He.ga K "unmet_goals"
  | 57 => He.ma K (He.ga K "Telling") "__init__"
  | 77 => He.ga K "is_proof"
  | 76 => He.ga K "is_doubt"
  | 75 => He.ga K "are_doubts"
  | 74 => He.ga K "are_reasons"
  | 69 => He.ga K "sets_of"
  | 68 => He.ga K "all_sets"
  | 67 => He.ga K "set_cost"
  | 70 => He.ga K "cheaper_sets"
  | 58 => He.ma K (He.ga K "Telling") "shows"
  | 59 => He.ma K (He.ga K "Telling") "__eq__"
  | 60 => He.ma K (He.ga K "NoTelling") "__init__"
  | 61 => He.ma K (He.ga K "NoTelling") "shows"
  | 62 => He.ma K (He.ga K "NoTelling") "__eq__"
  | 73 => He.ga K "doubt_about"
  | 72 => He.ga K "doubts_about"
  | 64 => He.ga K "good_sets"
  | 63 => He.ga K "cheapest"
  | 71 => He.ga K "extensions"
  | 65 => He.ga K "breaches"
  | 66 => He.ga K "rescues"
  | 78 => He.ga K "_law_scene"
  | 79 => He.ga K "_law_claims_right"
  | 80 => He.ga K "_law_knowing_right"
  | 81 => He.ga K "_law_evidence_right"
  | 82 => He.ga K "_law_tellings_right"
  | 83 => He.ga K "_law_answers_right"
  | 84 => He.ga K "law"
  | _ => 0
def Psi (K : PySem.W.Frag) : Nat → Addr
  | 7 => He.ma K (He.ga K "Claim") "sure"
  | 8 => He.ma K (He.ga K "Claim") "total"
  | 9 => He.ma K (He.ga K "Claim") "worlds"
  | 17 => He.ma K (He.ga K "Scene") "actual"
  | 18 => He.ma K (He.ga K "Scene") "fact"
  | 19 => He.ma K (He.ga K "Scene") "people"
  | 20 => He.ma K (He.ga K "Scene") "names"
  | 21 => He.ma K (He.ga K "Scene") "goals"
  | _ => 0
def chk (K : PySem.W.Frag) : List Bool := [
  bClsI K (Gam K 0),
  bClsI K (Gam K 1),
  bClsI K (Gam K 2),
  bClsI K (Gam K 3),
  ((PySem.W.clsIn K (Gam K 0)).isSome && PySem.W.typeIn K (.ref (Gam K 0)) == some (.type "type")),
  ((PySem.W.clsIn K (Gam K 1)).isSome && PySem.W.typeIn K (.ref (Gam K 1)) == some (.type "type")),
  ((PySem.W.clsIn K (Gam K 2)).isSome && PySem.W.typeIn K (.ref (Gam K 2)) == some (.type "type")),
  ((PySem.W.clsIn K (Gam K 3)).isSome && PySem.W.typeIn K (.ref (Gam K 3)) == some (.type "type")),
  tyC.all fun y => decide (PySem.W.subIn K (.ref (Gam K 0)) (.type y) = some false),
  tyC.all fun y => decide (PySem.W.subIn K (.ref (Gam K 1)) (.type y) = some false),
  tyC.all fun y => decide (PySem.W.subIn K (.ref (Gam K 2)) (.type y) = some false),
  tyC.all fun y => decide (PySem.W.subIn K (.ref (Gam K 3)) (.type y) = some false),
  decide (PySem.W.kitOne K (.ref (Gam K 0)) (.ref (Gam K 0)) = some (0 == 0)),
  decide (PySem.W.kitOne K (.ref (Gam K 0)) (.ref (Gam K 1)) = some (0 == 1)),
  decide (PySem.W.kitOne K (.ref (Gam K 0)) (.ref (Gam K 2)) = some (0 == 2)),
  decide (PySem.W.kitOne K (.ref (Gam K 0)) (.ref (Gam K 3)) = some (0 == 3)),
  decide (PySem.W.kitOne K (.ref (Gam K 1)) (.ref (Gam K 0)) = some (1 == 0)),
  decide (PySem.W.kitOne K (.ref (Gam K 1)) (.ref (Gam K 1)) = some (1 == 1)),
  decide (PySem.W.kitOne K (.ref (Gam K 1)) (.ref (Gam K 2)) = some (1 == 2)),
  decide (PySem.W.kitOne K (.ref (Gam K 1)) (.ref (Gam K 3)) = some (1 == 3)),
  decide (PySem.W.kitOne K (.ref (Gam K 2)) (.ref (Gam K 0)) = some (2 == 0)),
  decide (PySem.W.kitOne K (.ref (Gam K 2)) (.ref (Gam K 1)) = some (2 == 1)),
  decide (PySem.W.kitOne K (.ref (Gam K 2)) (.ref (Gam K 2)) = some (2 == 2)),
  decide (PySem.W.kitOne K (.ref (Gam K 2)) (.ref (Gam K 3)) = some (2 == 3)),
  decide (PySem.W.kitOne K (.ref (Gam K 3)) (.ref (Gam K 0)) = some (3 == 0)),
  decide (PySem.W.kitOne K (.ref (Gam K 3)) (.ref (Gam K 1)) = some (3 == 1)),
  decide (PySem.W.kitOne K (.ref (Gam K 3)) (.ref (Gam K 2)) = some (3 == 2)),
  decide (PySem.W.kitOne K (.ref (Gam K 3)) (.ref (Gam K 3)) = some (3 == 3)),
  He.eqO (PySem.W.findIn K (.ref (Gam K 0)) "_total") (some none),
  He.eqO (PySem.W.findIn K (.ref (Gam K 0)) "_worlds") (some none),
  He.eqO (PySem.W.findIn K (.ref (Gam K 3)) "doubts") (some none),
  He.eqO (PySem.W.findIn K (.ref (Gam K 1)) "_count") (some none),
  He.eqO (PySem.W.findIn K (.ref (Gam K 1)) "_fact") (some none),
  He.eqO (PySem.W.findIn K (.ref (Gam K 1)) "_goals") (some none),
  He.eqO (PySem.W.findIn K (.ref (Gam K 1)) "_real") (some none),
  He.eqO (PySem.W.findIn K (.ref (Gam K 1)) "_sentences") (some none),
  He.eqO (PySem.W.findIn K (.ref (Gam K 1)) "_sights") (some none),
  He.eqO (PySem.W.findIn K (.ref (Gam K 2)) "doubts") (some none),
  He.eqO (PySem.W.findIn K (.ref (Gam K 2)) "reasons") (some none),
  He.eqO (PySem.W.findIn K (.ref (Gam K 2)) "said") (some none),
  He.eqO (PySem.W.findIn K (.ref (Gam K 0)) "__bool__") (some none),
  He.eqO (PySem.W.nsIn K mainGlobals "BadWorlds") (some (some (.ref (Gam K 16)))),
  He.eqO (PySem.W.nsIn K mainGlobals "Claim") (some (some (.ref (Gam K 0)))),
  He.eqO (PySem.W.nsIn K mainGlobals "NoTelling") (some (some (.ref (Gam K 3)))),
  He.eqO (PySem.W.nsIn K mainGlobals "Scene") (some (some (.ref (Gam K 1)))),
  He.eqO (PySem.W.nsIn K mainGlobals "TellError") (some (some (.ref (Gam K 10)))),
  He.eqO (PySem.W.nsIn K mainGlobals "Telling") (some (some (.ref (Gam K 2)))),
  bCls K (Gam K 0),
  bCls K (Gam K 3),
  bCls K (Gam K 1),
  bCls K (Gam K 2),
  bCRead K (Gam K 0),
  bCMet K (Gam K 0) "sure" (Psi K 7),
  bCallO K (Gam K 1) (Phi K 28),
  PySem.W.notFirst K (Gam K 0) (.ref (Gam K 0)),
  He.eqO (PySem.W.findIn K (.ref (Gam K 0)) "__ne__") (some (some (.builtin "object.__ne__"))),
  decide (PySem.W.subIn K (.ref (Gam K 0)) (.type "object") = some true),
  He.eqO (PySem.W.nsIn K mainGlobals "all_sets") (some (some (.ref (Phi K 68)))),
  PySem.W.keepIn K (.ref (Phi K 68)),
  He.eqO (PySem.W.nsIn K mainGlobals "are_doubts") (some (some (.ref (Phi K 75)))),
  PySem.W.keepIn K (.ref (Phi K 75)),
  He.eqO (PySem.W.nsIn K mainGlobals "are_goals") (some (some (.ref (Phi K 42)))),
  PySem.W.keepIn K (.ref (Phi K 42)),
  He.eqO (PySem.W.nsIn K mainGlobals "are_numbers") (some (some (.ref (Phi K 2)))),
  PySem.W.keepIn K (.ref (Phi K 2)),
  He.eqO (PySem.W.nsIn K mainGlobals "are_people") (some (some (.ref (Phi K 38)))),
  PySem.W.keepIn K (.ref (Phi K 38)),
  He.eqO (PySem.W.nsIn K mainGlobals "are_reasons") (some (some (.ref (Phi K 74)))),
  PySem.W.keepIn K (.ref (Phi K 74)),
  He.eqO (PySem.W.nsIn K mainGlobals "are_sentences") (some (some (.ref (Phi K 40)))),
  PySem.W.keepIn K (.ref (Phi K 40)),
  He.eqO (PySem.W.nsIn K mainGlobals "are_sights") (some (some (.ref (Phi K 39)))),
  PySem.W.keepIn K (.ref (Phi K 39)),
  He.eqO (PySem.W.nsIn K mainGlobals "are_world_and_count") (some (some (.ref (Phi K 37)))),
  PySem.W.keepIn K (.ref (Phi K 37)),
  He.eqO (PySem.W.nsIn K mainGlobals "breaches") (some (some (.ref (Phi K 65)))),
  PySem.W.keepIn K (.ref (Phi K 65)),
  He.eqO (PySem.W.nsIn K mainGlobals "cheaper_sets") (some (some (.ref (Phi K 70)))),
  PySem.W.keepIn K (.ref (Phi K 70)),
  He.eqO (PySem.W.nsIn K mainGlobals "cheapest") (some (some (.ref (Phi K 63)))),
  PySem.W.keepIn K (.ref (Phi K 63)),
  He.eqO (PySem.W.nsIn K mainGlobals "check_partner") (some (some (.ref (Phi K 34)))),
  PySem.W.keepIn K (.ref (Phi K 34)),
  He.eqO (PySem.W.nsIn K mainGlobals "check_scene") (some (some (.ref (Phi K 35)))),
  PySem.W.keepIn K (.ref (Phi K 35)),
  He.eqO (PySem.W.nsIn K mainGlobals "confused") (some (some (.ref (Phi K 51)))),
  PySem.W.keepIn K (.ref (Phi K 51)),
  He.eqO (PySem.W.nsIn K mainGlobals "doubt_about") (some (some (.ref (Phi K 73)))),
  PySem.W.keepIn K (.ref (Phi K 73)),
  He.eqO (PySem.W.nsIn K mainGlobals "doubts_about") (some (some (.ref (Phi K 72)))),
  PySem.W.keepIn K (.ref (Phi K 72)),
  He.eqO (PySem.W.nsIn K mainGlobals "evidence") (some (some (.ref (Phi K 45)))),
  PySem.W.keepIn K (.ref (Phi K 45)),
  He.eqO (PySem.W.nsIn K mainGlobals "extensions") (some (some (.ref (Phi K 71)))),
  PySem.W.keepIn K (.ref (Phi K 71)),
  He.eqO (PySem.W.nsIn K mainGlobals "good_sets") (some (some (.ref (Phi K 64)))),
  PySem.W.keepIn K (.ref (Phi K 64)),
  He.eqO (PySem.W.nsIn K mainGlobals "has_all") (some (some (.ref (Phi K 55)))),
  PySem.W.keepIn K (.ref (Phi K 55)),
  He.eqO (PySem.W.nsIn K mainGlobals "holds") (some (some (.ref (Phi K 44)))),
  PySem.W.keepIn K (.ref (Phi K 44)),
  He.eqO (PySem.W.nsIn K mainGlobals "is_chain") (some (some (.ref (Phi K 5)))),
  PySem.W.keepIn K (.ref (Phi K 5)),
  He.eqO (PySem.W.nsIn K mainGlobals "is_circle") (some (some (.ref (Phi K 47)))),
  PySem.W.keepIn K (.ref (Phi K 47)),
  He.eqO (PySem.W.nsIn K mainGlobals "is_claim") (some (some (.ref (Phi K 36)))),
  PySem.W.keepIn K (.ref (Phi K 36)),
  He.eqO (PySem.W.nsIn K mainGlobals "is_doubt") (some (some (.ref (Phi K 76)))),
  PySem.W.keepIn K (.ref (Phi K 76)),
  He.eqO (PySem.W.nsIn K mainGlobals "is_fact_in") (some (some (.ref (Phi K 56)))),
  PySem.W.keepIn K (.ref (Phi K 56)),
  He.eqO (PySem.W.nsIn K mainGlobals "is_goal") (some (some (.ref (Phi K 43)))),
  PySem.W.keepIn K (.ref (Phi K 43)),
  He.eqO (PySem.W.nsIn K mainGlobals "is_name") (some (some (.ref (Phi K 3)))),
  PySem.W.keepIn K (.ref (Phi K 3)),
  He.eqO (PySem.W.nsIn K mainGlobals "is_number") (some (some (.ref (Phi K 1)))),
  PySem.W.keepIn K (.ref (Phi K 1)),
  He.eqO (PySem.W.nsIn K mainGlobals "is_one_of") (some (some (.ref (Phi K 4)))),
  PySem.W.keepIn K (.ref (Phi K 4)),
  He.eqO (PySem.W.nsIn K mainGlobals "is_path") (some (some (.ref (Phi K 48)))),
  PySem.W.keepIn K (.ref (Phi K 48)),
  He.eqO (PySem.W.nsIn K mainGlobals "is_proof") (some (some (.ref (Phi K 77)))),
  PySem.W.keepIn K (.ref (Phi K 77)),
  He.eqO (PySem.W.nsIn K mainGlobals "is_ring") (some (some (.ref (Phi K 54)))),
  PySem.W.keepIn K (.ref (Phi K 54)),
  He.eqO (PySem.W.nsIn K mainGlobals "is_sentence") (some (some (.ref (Phi K 41)))),
  PySem.W.keepIn K (.ref (Phi K 41)),
  He.eqO (PySem.W.nsIn K mainGlobals "_law_answers_right") (some (some (.ref (Phi K 83)))),
  PySem.W.keepIn K (.ref (Phi K 83)),
  He.eqO (PySem.W.nsIn K mainGlobals "_law_claims_right") (some (some (.ref (Phi K 79)))),
  PySem.W.keepIn K (.ref (Phi K 79)),
  He.eqO (PySem.W.nsIn K mainGlobals "_law_evidence_right") (some (some (.ref (Phi K 81)))),
  PySem.W.keepIn K (.ref (Phi K 81)),
  He.eqO (PySem.W.nsIn K mainGlobals "_law_knowing_right") (some (some (.ref (Phi K 80)))),
  PySem.W.keepIn K (.ref (Phi K 80)),
  He.eqO (PySem.W.nsIn K mainGlobals "_law_scene") (some (some (.ref (Phi K 78)))),
  PySem.W.keepIn K (.ref (Phi K 78)),
  He.eqO (PySem.W.nsIn K mainGlobals "_law_tellings_right") (some (some (.ref (Phi K 82)))),
  PySem.W.keepIn K (.ref (Phi K 82)),
  He.eqO (PySem.W.nsIn K mainGlobals "meets") (some (some (.ref (Phi K 46)))),
  PySem.W.keepIn K (.ref (Phi K 46)),
  He.eqO (PySem.W.nsIn K mainGlobals "path_through") (some (some (.ref (Phi K 53)))),
  PySem.W.keepIn K (.ref (Phi K 53)),
  He.eqO (PySem.W.nsIn K mainGlobals "rescues") (some (some (.ref (Phi K 66)))),
  PySem.W.keepIn K (.ref (Phi K 66)),
  He.eqO (PySem.W.nsIn K mainGlobals "set_cost") (some (some (.ref (Phi K 67)))),
  PySem.W.keepIn K (.ref (Phi K 67)),
  He.eqO (PySem.W.nsIn K mainGlobals "sets_of") (some (some (.ref (Phi K 69)))),
  PySem.W.keepIn K (.ref (Phi K 69)),
  He.eqO (PySem.W.nsIn K mainGlobals "smallest_circle") (some (some (.ref (Phi K 52)))),
  PySem.W.keepIn K (.ref (Phi K 52)),
  He.eqO (PySem.W.nsIn K mainGlobals "unmet_goals") (some (some (.ref (Phi K 49)))),
  PySem.W.keepIn K (.ref (Phi K 49)),
  He.eqO (PySem.W.nsIn K mainGlobals "worlds_left") (some (some (.ref (Phi K 50)))),
  PySem.W.keepIn K (.ref (Phi K 50)),
  PySem.W.fnIn K (Phi K 22),
  (He.Fa.str "LETTERS" "abcdefghijklmnopqrstuvwxyz").ok K,
  bMeth K (Gam K 3) "shows" (Phi K 61),
  bMeth K (Gam K 1) "_sentence" (Phi K 25),
  bMeth K (Gam K 1) "check_set" (Phi K 30),
  bMeth K (Gam K 1) "cost" (Phi K 24),
  bMeth K (Gam K 1) "in_order" (Phi K 31),
  bMeth K (Gam K 1) "remaining" (Phi K 29),
  bMeth K (Gam K 1) "sees" (Phi K 32),
  bMeth K (Gam K 2) "shows" (Phi K 58),
  bMk K (Gam K 0) (Phi K 6),
  bMk K (Gam K 3) (Phi K 60),
  bMk K (Gam K 1) (Phi K 16),
  bMk K (Gam K 2) (Phi K 57),
  He.eqO (PySem.W.nsIn K mainGlobals "abs") (some none),
  He.eqO (PySem.W.nsIn K mainGlobals "all") (some none),
  He.eqO (PySem.W.nsIn K mainGlobals "bool") (some none),
  He.eqO (PySem.W.nsIn K mainGlobals "dict") (some none),
  He.eqO (PySem.W.nsIn K mainGlobals "enumerate") (some none),
  He.eqO (PySem.W.nsIn K mainGlobals "int") (some none),
  He.eqO (PySem.W.nsIn K mainGlobals "isinstance") (some none),
  He.eqO (PySem.W.nsIn K mainGlobals "len") (some none),
  He.eqO (PySem.W.nsIn K mainGlobals "list") (some none),
  He.eqO (PySem.W.nsIn K mainGlobals "min") (some none),
  He.eqO (PySem.W.nsIn K mainGlobals "range") (some none),
  He.eqO (PySem.W.nsIn K mainGlobals "reversed") (some none),
  He.eqO (PySem.W.nsIn K mainGlobals "set") (some none),
  He.eqO (PySem.W.nsIn K mainGlobals "sorted") (some none),
  He.eqO (PySem.W.nsIn K mainGlobals "str") (some none),
  He.eqO (PySem.W.nsIn K mainGlobals "sum") (some none),
  He.eqO (PySem.W.nsIn K mainGlobals "tuple") (some none),
  He.eqO (PySem.W.nsIn K mainGlobals "zip") (some none),
  bOwn K (Gam K 0) "__and__" (Phi K 10),
  PySem.W.selfFirst K (Gam K 0),
  bOwn K (Gam K 0) "__contains__" (Phi K 13),
  bOwn K (Gam K 0) "__eq__" (Phi K 15),
  bOwn K (Gam K 0) "__len__" (Phi K 14),
  bOwn K (Gam K 0) "__neg__" (Phi K 12),
  bOwn K (Gam K 0) "__or__" (Phi K 11),
  bOwn K (Gam K 1) "__contains__" (Phi K 26),
  bOwn K (Gam K 1) "__getitem__" (Phi K 22),
  bProp K (Gam K 0) "total" (Psi K 8),
  bProp K (Gam K 0) "worlds" (Psi K 9),
  bProp K (Gam K 1) "actual" (Psi K 17),
  bProp K (Gam K 1) "fact" (Psi K 18),
  bProp K (Gam K 1) "goals" (Psi K 21),
  bProp K (Gam K 1) "names" (Psi K 20),
  bProp K (Gam K 1) "people" (Psi K 19),
  PySem.W.excIn K (Gam K 16) [.type "ValueError", .type "Exception", .type "BaseException", .type "object"] "ValueError.__new__",
  PySem.W.keepIn K (.ref (Gam K 16)),
  decide (PySem.W.subIn K (.ref (Gam K 16)) (.type "BaseException") = some true),
  decide (PySem.W.typeIn K (.ref (Gam K 16)) = some (.type "type")),
  decide (PySem.W.exmOne K (.ref (Gam K 16)) (.ref (Gam K 16)) = some true),
  decide (PySem.W.exmOne K (.ref (Gam K 16)) (.ref (Gam K 10)) = some true),
  K.all fun z => !(z.2.cls == .type "list"),
  He.eqO (PySem.W.nsIn K mainGlobals "law") (some (some (.ref (He.ga K "law"))))]
def fns : List DefC := [
  ⟨fun K => He.ga K "is_number", "is_number", "is_number", s_is_number⟩,
  ⟨fun K => He.ga K "are_numbers", "are_numbers", "are_numbers", s_are_numbers⟩,
  ⟨fun K => He.ga K "is_name", "is_name", "is_name", s_is_name⟩,
  ⟨fun K => He.ga K "is_one_of", "is_one_of", "is_one_of", s_is_one_of⟩,
  ⟨fun K => He.ga K "is_chain", "is_chain", "is_chain", s_is_chain⟩,
  ⟨fun K => He.ma K (He.ga K "Claim") "__init__", "__init__", "Claim.__init__", s_Claim_init⟩,
  ⟨fun K => He.ma K (He.ga K "Claim") "__neg__", "__neg__", "Claim.__neg__", s_Claim_neg⟩,
  ⟨fun K => recAd K (He.ma K (He.ga K "Claim") "sure") "classmethod", "sure", "Claim.sure", s_Claim_sure⟩,
  ⟨fun K => recAd K (He.ma K (He.ga K "Claim") "total") "property", "total", "Claim.total", s_Claim_total⟩,
  ⟨fun K => recAd K (He.ma K (He.ga K "Claim") "worlds") "property", "worlds", "Claim.worlds", s_Claim_worlds⟩,
  ⟨fun K => He.ga K "is_claim", "is_claim", "is_claim", s_is_claim⟩,
  ⟨fun K => He.ga K "check_partner", "check_partner", "check_partner", s_check_partner⟩,
  ⟨fun K => He.ma K (He.ga K "Claim") "__and__", "__and__", "Claim.__and__", s_Claim_and⟩,
  ⟨fun K => He.ma K (He.ga K "Claim") "__or__", "__or__", "Claim.__or__", s_Claim_or⟩,
  ⟨fun K => He.ma K (He.ga K "Claim") "__contains__", "__contains__", "Claim.__contains__", s_Claim_contains⟩,
  ⟨fun K => He.ma K (He.ga K "Claim") "__len__", "__len__", "Claim.__len__", s_Claim_len⟩,
  ⟨fun K => He.ma K (He.ga K "Claim") "__eq__", "__eq__", "Claim.__eq__", s_Claim_eq⟩,
  ⟨fun K => He.ga K "is_goal", "is_goal", "is_goal", s_is_goal⟩,
  ⟨fun K => He.ga K "are_goals", "are_goals", "are_goals", s_are_goals⟩,
  ⟨fun K => He.ga K "is_sentence", "is_sentence", "is_sentence", s_is_sentence⟩,
  ⟨fun K => He.ga K "are_sentences", "are_sentences", "are_sentences", s_are_sentences⟩,
  ⟨fun K => He.ga K "are_sights", "are_sights", "are_sights", s_are_sights⟩,
  ⟨fun K => He.ga K "are_people", "are_people", "are_people", s_are_people⟩,
  ⟨fun K => He.ga K "are_world_and_count", "are_world_and_count", "are_world_and_count", s_are_world_and_count⟩,
  ⟨fun K => He.ma K (He.ga K "Scene") "__init__", "__init__", "Scene.__init__", s_Scene_init⟩,
  ⟨fun K => recAd K (He.ma K (He.ga K "Scene") "actual") "property", "actual", "Scene.actual", s_Scene_actual⟩,
  ⟨fun K => recAd K (He.ma K (He.ga K "Scene") "fact") "property", "fact", "Scene.fact", s_Scene_fact⟩,
  ⟨fun K => recAd K (He.ma K (He.ga K "Scene") "people") "property", "people", "Scene.people", s_Scene_people⟩,
  ⟨fun K => recAd K (He.ma K (He.ga K "Scene") "names") "property", "names", "Scene.names", s_Scene_names⟩,
  ⟨fun K => recAd K (He.ma K (He.ga K "Scene") "goals") "property", "goals", "Scene.goals", s_Scene_goals⟩,
  ⟨fun K => He.ma K (He.ga K "Scene") "_sentence", "_sentence", "Scene._sentence", s_Scene__sentence⟩,
  ⟨fun K => He.ma K (He.ga K "Scene") "__getitem__", "__getitem__", "Scene.__getitem__", s_Scene_getitem⟩,
  ⟨fun K => He.ma K (He.ga K "Scene") "__iter__", "__iter__", "Scene.__iter__", s_Scene_iter⟩,
  ⟨fun K => He.ma K (He.ga K "Scene") "cost", "cost", "Scene.cost", s_Scene_cost⟩,
  ⟨fun K => He.ma K (He.ga K "Scene") "__contains__", "__contains__", "Scene.__contains__", s_Scene_contains⟩,
  ⟨fun K => He.ma K (He.ga K "Scene") "__len__", "__len__", "Scene.__len__", s_Scene_len⟩,
  ⟨fun K => He.ma K (He.ga K "Scene") "in_order", "in_order", "Scene.in_order", s_Scene_in_order⟩,
  ⟨fun K => He.ma K (He.ga K "Scene") "check_set", "check_set", "Scene.check_set", s_Scene_check_set⟩,
  ⟨fun K => He.ma K (He.ga K "Scene") "remaining", "remaining", "Scene.remaining", s_Scene_remaining⟩,
  ⟨fun K => He.ma K (He.ga K "Scene") "__call__", "__call__", "Scene.__call__", s_Scene_call⟩,
  ⟨fun K => He.ma K (He.ga K "Scene") "sees", "sees", "Scene.sees", s_Scene_sees⟩,
  ⟨fun K => He.ma K (He.ga K "Scene") "__eq__", "__eq__", "Scene.__eq__", s_Scene_eq⟩,
  ⟨fun K => He.ga K "check_scene", "check_scene", "check_scene", s_check_scene⟩,
  ⟨fun K => He.ga K "is_fact_in", "is_fact_in", "is_fact_in", s_is_fact_in⟩,
  ⟨fun K => He.ga K "confused", "confused", "confused", s_confused⟩,
  ⟨fun K => He.ga K "smallest_circle", "smallest_circle", "smallest_circle", s_smallest_circle⟩,
  ⟨fun K => He.ga K "worlds_left", "worlds_left", "worlds_left", s_worlds_left⟩,
  ⟨fun K => He.ga K "holds", "holds", "holds", s_holds⟩,
  ⟨fun K => He.ga K "path_through", "path_through", "path_through", s_path_through⟩,
  ⟨fun K => He.ga K "evidence", "evidence", "evidence", s_evidence⟩,
  ⟨fun K => He.ga K "meets", "meets", "meets", s_meets⟩,
  ⟨fun K => He.ga K "has_all", "has_all", "has_all", s_has_all⟩,
  ⟨fun K => He.ga K "is_ring", "is_ring", "is_ring", s_is_ring⟩,
  ⟨fun K => He.ga K "is_circle", "is_circle", "is_circle", s_is_circle⟩,
  ⟨fun K => He.ga K "is_path", "is_path", "is_path", s_is_path⟩,
  ⟨fun K => He.ga K "unmet_goals", "unmet_goals", "unmet_goals", s_unmet_goals⟩,
  ⟨fun K => He.ma K (He.ga K "Telling") "__init__", "__init__", "Telling.__init__", s_Telling_init⟩,
  ⟨fun K => He.ga K "is_proof", "is_proof", "is_proof", s_is_proof⟩,
  ⟨fun K => He.ga K "is_doubt", "is_doubt", "is_doubt", s_is_doubt⟩,
  ⟨fun K => He.ga K "are_doubts", "are_doubts", "are_doubts", s_are_doubts⟩,
  ⟨fun K => He.ga K "are_reasons", "are_reasons", "are_reasons", s_are_reasons⟩,
  ⟨fun K => He.ga K "sets_of", "sets_of", "sets_of", s_sets_of⟩,
  ⟨fun K => He.ga K "all_sets", "all_sets", "all_sets", s_all_sets⟩,
  ⟨fun K => He.ga K "set_cost", "set_cost", "set_cost", s_set_cost⟩,
  ⟨fun K => He.ga K "cheaper_sets", "cheaper_sets", "cheaper_sets", s_cheaper_sets⟩,
  ⟨fun K => He.ma K (He.ga K "Telling") "shows", "shows", "Telling.shows", s_Telling_shows⟩,
  ⟨fun K => He.ma K (He.ga K "Telling") "__eq__", "__eq__", "Telling.__eq__", s_Telling_eq⟩,
  ⟨fun K => He.ma K (He.ga K "NoTelling") "__init__", "__init__", "NoTelling.__init__", s_NoTelling_init⟩,
  ⟨fun K => He.ma K (He.ga K "NoTelling") "shows", "shows", "NoTelling.shows", s_NoTelling_shows⟩,
  ⟨fun K => He.ma K (He.ga K "NoTelling") "__eq__", "__eq__", "NoTelling.__eq__", s_NoTelling_eq⟩,
  ⟨fun K => He.ga K "doubt_about", "doubt_about", "doubt_about", s_doubt_about⟩,
  ⟨fun K => He.ga K "doubts_about", "doubts_about", "doubts_about", s_doubts_about⟩,
  ⟨fun K => He.ga K "good_sets", "good_sets", "good_sets", s_good_sets⟩,
  ⟨fun K => He.ga K "cheapest", "cheapest", "cheapest", s_cheapest⟩,
  ⟨fun K => He.ga K "extensions", "extensions", "extensions", s_extensions⟩,
  ⟨fun K => He.ga K "breaches", "breaches", "breaches", s_breaches⟩,
  ⟨fun K => He.ga K "rescues", "rescues", "rescues", s_rescues⟩,
  ⟨fun K => He.ga K "_law_scene", "_law_scene", "_law_scene", s_law_scene⟩,
  ⟨fun K => He.ga K "_law_claims_right", "_law_claims_right", "_law_claims_right", s_law_claims_right⟩,
  ⟨fun K => He.ga K "_law_knowing_right", "_law_knowing_right", "_law_knowing_right", s_law_knowing_right⟩,
  ⟨fun K => He.ga K "_law_evidence_right", "_law_evidence_right", "_law_evidence_right", s_law_evidence_right⟩,
  ⟨fun K => He.ga K "_law_tellings_right", "_law_tellings_right", "_law_tellings_right", s_law_tellings_right⟩,
  ⟨fun K => He.ga K "_law_answers_right", "_law_answers_right", "_law_answers_right", s_law_answers_right⟩,
  ⟨fun K => He.ga K "law", "law", "law", s_law⟩]
def loose0 : List PySem.Str := ["TellError", "BadClaim", "BadScene", "BadName", "BadSet", "BadChain", "BadWorlds", "LETTERS", "is_number", "are_numbers", "is_name", "is_one_of", "is_chain", "Claim", "Scene", "check_partner", "check_scene", "is_claim", "are_world_and_count", "are_people"]
def loose1 : List PySem.Str := ["are_sights", "are_sentences", "is_sentence", "are_goals", "is_goal", "holds", "evidence", "meets", "is_circle", "is_path", "unmet_goals", "worlds_left", "confused", "smallest_circle", "path_through", "is_ring", "has_all", "is_fact_in", "Telling", "NoTelling"]
def loose2 : List PySem.Str := ["cheapest", "good_sets", "breaches", "rescues", "set_cost", "all_sets", "sets_of", "cheaper_sets", "extensions", "doubts_about", "doubt_about", "are_reasons", "are_doubts", "is_doubt", "is_proof", "_law_scene", "_law_claims_right", "_law_knowing_right", "_law_evidence_right", "_law_tellings_right"]
def loose3 : List PySem.Str := ["_law_answers_right"]
abbrev RwL : PySem.W.OpenLaw := PySem.Challenge.rw_tellsome_k34_by_hand
def loose : List PySem.Str := loose0 ++ loose1 ++ loose2 ++ loose3
abbrev RR : PySem.W.OpenRow := PySem.W.OpenLaw.row RwL
abbrev hk : PySem.W.Hook := hookC 1200 chk fns
def ob (s : PySem.W.SharedT) : AlC := obsCG 1200 chk fns (HandSHeadRun.getT s)
theorem ob_eq (s : PySem.W.SharedT) : ob s = hk.obs s.abs := obsCG_eq (HandSHeadRun.getT_eq s)
theorem run (w : World) : HandSHeadRun.RunEq RR (PySem.W.view RR.prog [67]) hk ob 30000 loose w := by
  intro os
  kernel_rfl
end Pf
/-! Ev: a small evaluator over plain data, and what it says of the machine (over the hand layer). -/
namespace Ev
open PySem L2

/-- plain data: loc n is the n-th cell of the store; gl g a class of the text; what is neither never changes again -/
inductive D where
  | non | bl (b : Bool) | int (i : Int) | str (s : Str) | ty (n : String)
  | gl (g : Nat)
  | loc (n : Nat)
  | tup (xs : List D) | lst (xs : List D)
  | scr (xs : List D)
  | dk (kvs : List (Key × D))
  | dt (kvs : List (List Key × D))
  | obj (c : Nat) (fs : List (Str × D))
/-- a cell -/
inductive O where
  | lst (xs : List D)
  | dk (kvs : List (Key × D))
  | dt (kvs : List (List Key × D))
  | ins (c : Nat) (fs : List (Str × D))
abbrev Sto := List O
/-- an exception: its class, its own fields -/
structure XV where
  cls : D
  fs : List (Str × D)
inductive Res (α : Type) where
  | ok (a : α) (S : Sto)
  | ex (x : XV) (S : Sto)
  | no
def Res.bind {α β : Type} (r : Res α) (f : α → Sto → Res β) : Res β := match r with
  | .ok a S => f a S
  | .ex x S => .ex x S
  | .no => .no
/-- what comes is wanted -/
def Res.Sat {α : Type} (r : Res α) (Q : α → Sto → Prop) (E : XV → Sto → Prop) : Prop := match r with
  | .ok a S => Q a S
  | .ex x S => E x S
  | .no => False
theorem Res.Sat.mono {α : Type} {r : Res α} {Q Q' : α → Sto → Prop} {E E' : XV → Sto → Prop} (h : r.Sat Q E) (hQ : ∀ a S, Q a S → Q' a S) (hE : ∀ x S, E x S → E' x S) : r.Sat Q' E' := by
  cases r with
  | ok a S => exact hQ _ _ h
  | ex x S => exact hE _ _ h
  | no => exact h
theorem Res.Sat.of_bind {α β : Type} {r : Res α} {f : α → Sto → Res β} {Q : β → Sto → Prop} {E : XV → Sto → Prop} (h : (r.bind f).Sat Q E) : r.Sat (fun a S => (f a S).Sat Q E) E := by
  cases r with
  | ok a S => exact h
  | ex x S => exact h
  | no => exact h

/-- where the cells stand; hid: what else is not to be looked at (a list that is being made) -/
structure Mp where
  cells : List Addr
  hid : List Addr
instance : Membership Addr Mp := ⟨fun μ p => p ∈ μ.cells ∨ p ∈ μ.hid⟩
theorem Mp.mem_iff {μ : Mp} {p : Addr} : p ∈ μ ↔ p ∈ μ.cells ∨ p ∈ μ.hid := Iff.rfl
section
variable (Γ : Nat → Addr) (μ : Mp) (H : Hp)
mutual
/-- the value v shows the data d in the heap H, the store's cells at μ -/
inductive VR : D → V → Prop
  | non : VR .non .non
  | bl (b) : VR (.bl b) (.bl b)
  | int (i) : VR (.int i) (.int i)
  | str (s) : VR (.str s) (.str s)
  | ty (n) : VR (.ty n) (.ty n)
  | gl (g) : VR (.gl g) (.ref (Γ g))
  | loc {n p} : μ.cells[n]? = some p → VR (.loc n) (.ref p)
  | tup {xs vs p} : p ∉ μ → H p = some (.tup vs) → VRs xs vs → VR (.tup xs) (.ref p)
  | lst {xs vs p} : p ∉ μ → H p = some (.lst vs) → VRs xs vs → VR (.lst xs) (.ref p)
  | scr {xs vs p} : p ∉ μ → Rd H p (.lst vs) → VRs xs vs → VR (.scr xs) (.ref p)
  | dk {xs vs p} : p ∉ μ → Rd H p (.dK vs) → KRs xs vs → VR (.dk xs) (.ref p)
  | dt {xs vs p} : p ∉ μ → Rd H p (.dT vs) → TRs xs vs → VR (.dt xs) (.ref p)
  | obj {c xs vs p dx} : p ∉ μ → H p = some (.ins (Γ c) dx vs) → FRs xs vs → VR (.obj c xs) (.ref p)
inductive VRs : List D → List V → Prop
  | nil : VRs [] []
  | cons {d v ds vs} : VR d v → VRs ds vs → VRs (d :: ds) (v :: vs)
inductive KRs : List (Key × D) → List (Key × V) → Prop
  | nil : KRs [] []
  | cons {k d v ds vs} : VR d v → KRs ds vs → KRs ((k, d) :: ds) ((k, v) :: vs)
inductive TRs : List (List Key × D) → List (List Key × V) → Prop
  | nil : TRs [] []
  | cons {k d v ds vs} : VR d v → TRs ds vs → TRs ((k, d) :: ds) ((k, v) :: vs)
inductive FRs : List (Str × D) → List (Str × V) → Prop
  | nil : FRs [] []
  | cons {k d v ds vs} : VR d v → FRs ds vs → FRs ((k, d) :: ds) ((k, v) :: vs)
end
/-- a cell at p -/
inductive OR : O → Addr → Prop
  | lst {xs vs p} : H p = some (.lst vs) → VRs Γ μ H xs vs → OR (.lst xs) p
  | dk {xs vs p} : H p = some (.dK vs) → KRs Γ μ H xs vs → OR (.dk xs) p
  | dt {xs vs p} : H p = some (.dT vs) → TRs Γ μ H xs vs → OR (.dt xs) p
  | ins {c xs vs p dx} : H p = some (.ins (Γ c) dx vs) → FRs Γ μ H xs vs → OR (.ins c xs) p
end
/-- it is no tuple -/
abbrev NT (o : HO) : Prop := ∀ xs, o ≠ .tup xs
/-- the store stands at μ -/
structure MR (Γ : Nat → Addr) (μ : Mp) (S : Sto) (H : Hp) : Prop where
  len : μ.cells.length = S.length
  nd : μ.cells.Nodup
  ob : ∀ (i : Nat) (o : O) (p : Addr), S[i]? = some o → μ.cells[i]? = some p → OR Γ μ H o p
  hd : ∀ q ∈ μ.hid, (∃ o, H q = some o ∧ NT o) ∧ q ∉ μ.cells

/-- it stands as it stood, or (a dict) is known to its object from now on -/
def Up (o : HO) (q : Option HO) : Prop := q = some o ∨ ∃ ob, q = some (.frz ob o) ∧ ((∃ kvs, o = .dK kvs) ∨ ∃ kvs, o = .dT kvs)
def isHard : HO → Bool
  | .dK _ => false
  | .dT _ => false
  | _ => true
theorem Up.hard {o : HO} {q : Option HO} (h : Up o q) (k : isHard o = true) : q = some o := by
  rcases h with h | ⟨ob, h, ⟨kvs, e⟩ | ⟨kvs, e⟩⟩
  · exact h
  · subst e; cases k
  · subst e; cases k
theorem Up.trans {H1 H2 : Hp} {p : Addr} {o : HO} (a : Up o (H1 p)) (b : ∀ u, H1 p = some u → Up u (H2 p)) : Up o (H2 p) := by
  rcases a with a | ⟨ob, a, k⟩
  · exact b _ a
  · exact .inr ⟨ob, (b _ a).hard rfl, k⟩
/-- later: more cells; what is no cell stands as it stood -/
structure Step (μ : Mp) (H : Hp) (μ' : Mp) (H' : Hp) : Prop where
  pre : ∃ ν, μ'.cells = μ.cells ++ ν
  hid : μ'.hid = μ.hid
  kp : ∀ p o, H p = some o → p ∉ μ → p ∉ μ' ∧ Up o (H' p)
  hkeep : ∀ p o, p ∈ μ.hid → H p = some o → H' p = some o
theorem Step.refl {μ : Mp} {H : Hp} : Step μ H μ H := ⟨⟨[], by simp⟩, rfl, fun p o h n => ⟨n, .inl h⟩, fun _ _ _ h => h⟩
theorem Step.keep {μ μ' : Mp} {H H' : Hp} (s : Step μ H μ' H') (p : Addr) (o : HO) (h : H p = some o) (n : p ∉ μ) (k : isHard o = true := by rfl) : p ∉ μ' ∧ H' p = some o := ⟨(s.kp p o h n).1, (s.kp p o h n).2.hard k⟩
theorem Step.trans {μ μ1 μ2 : Mp} {H H1 H2 : Hp} (a : Step μ H μ1 H1) (b : Step μ1 H1 μ2 H2) : Step μ H μ2 H2 := by
  refine ⟨?_, b.hid.trans a.hid, fun p o h n => ?_, fun p o h e => b.hkeep p o (by rw [a.hid]; exact h) (a.hkeep p o h e)⟩
  · obtain ⟨x, e⟩ := a.pre
    obtain ⟨y, f⟩ := b.pre
    exact ⟨x ++ y, by rw [f, e, List.append_assoc]⟩
  · obtain ⟨n1, h1⟩ := a.kp p o h n
    have nb : p ∉ μ2 := by
      rcases h1 with h1 | ⟨ob, h1, _⟩
      · exact (b.kp p _ h1 n1).1
      · exact (b.kp p _ h1 n1).1
    exact ⟨nb, h1.trans fun u e => (b.kp p u e n1).2⟩
theorem Step.at {μ μ' : Mp} {H H' : Hp} (s : Step μ H μ' H') {n : Nat} {p : Addr} (h : μ.cells[n]? = some p) : μ'.cells[n]? = some p := by
  obtain ⟨ν, e⟩ := s.pre
  rw [e, List.getElem?_append_left]
  · exact h
  · exact (List.getElem?_eq_some_iff.mp h).1
theorem Step.rd {μ μ' : Mp} {H H' : Hp} (s : Step μ H μ' H') {p : Addr} {u : HO} (n : p ∉ μ) (h : Rd H p u) : p ∉ μ' ∧ Rd H' p u := by
  rcases h with h | ⟨o, h⟩
  · obtain ⟨a, b⟩ := s.kp p _ h n
    rcases b with b | ⟨ob, b, _⟩
    · exact ⟨a, .inl b⟩
    · exact ⟨a, .inr ⟨ob, b⟩⟩
  · obtain ⟨a, b⟩ := s.kp p _ h n
    exact ⟨a, .inr ⟨o, b.hard rfl⟩⟩
section
variable {Γ : Nat → Addr} {μ μ' : Mp} {H H' : Hp}
mutual
theorem VR.mono (s : Step μ H μ' H') : ∀ {d v}, VR Γ μ H d v → VR Γ μ' H' d v
  | _, _, .non => .non
  | _, _, .bl b => .bl b
  | _, _, .int b => .int b
  | _, _, .str b => .str b
  | _, _, .ty b => .ty b
  | _, _, .gl b => .gl b
  | _, _, .loc h => .loc (s.at h)
  | _, _, .tup n h r => .tup (s.keep _ _ h n).1 (s.keep _ _ h n).2 (VRs.mono s r)
  | _, _, .lst n h r => .lst (s.keep _ _ h n).1 (s.keep _ _ h n).2 (VRs.mono s r)
  | _, _, .scr n h r => .scr (s.rd n h).1 (s.rd n h).2 (VRs.mono s r)
  | _, _, .dk n h r => .dk (s.rd n h).1 (s.rd n h).2 (KRs.mono s r)
  | _, _, .dt n h r => .dt (s.rd n h).1 (s.rd n h).2 (TRs.mono s r)
  | _, _, .obj n h r => .obj (s.keep _ _ h n).1 (s.keep _ _ h n).2 (FRs.mono s r)
theorem VRs.mono (s : Step μ H μ' H') : ∀ {d v}, VRs Γ μ H d v → VRs Γ μ' H' d v
  | _, _, .nil => .nil
  | _, _, .cons a b => .cons (VR.mono s a) (VRs.mono s b)
theorem KRs.mono (s : Step μ H μ' H') : ∀ {d v}, KRs Γ μ H d v → KRs Γ μ' H' d v
  | _, _, .nil => .nil
  | _, _, .cons a b => .cons (VR.mono s a) (KRs.mono s b)
theorem TRs.mono (s : Step μ H μ' H') : ∀ {d v}, TRs Γ μ H d v → TRs Γ μ' H' d v
  | _, _, .nil => .nil
  | _, _, .cons a b => .cons (VR.mono s a) (TRs.mono s b)
theorem FRs.mono (s : Step μ H μ' H') : ∀ {d v}, FRs Γ μ H d v → FRs Γ μ' H' d v
  | _, _, .nil => .nil
  | _, _, .cons a b => .cons (VR.mono s a) (FRs.mono s b)
end
theorem VRs.length : ∀ {d v}, VRs Γ μ H d v → d.length = v.length
  | _, _, .nil => rfl
  | _, _, .cons _ b => by rw [List.length_cons, List.length_cons, VRs.length b]
theorem VRs.get : ∀ {ds : List D} {vs : List V} {i : Nat} {d : D}, VRs Γ μ H ds vs → ds[i]? = some d → ∃ v, vs[i]? = some v ∧ VR Γ μ H d v
  | _, _, _, _, .nil, e => by simp at e
  | _, _, 0, _, .cons r _, e => by simp at e; subst e; exact ⟨_, rfl, r⟩
  | _, _, i + 1, d, .cons _ t, e => by
    obtain ⟨u, h1, h2⟩ := VRs.get (i := i) (d := d) t (by simpa using e)
    exact ⟨u, by simpa using h1, h2⟩
theorem VRs.append : ∀ {xs ys : List D} {us ws : List V}, VRs Γ μ H xs us → VRs Γ μ H ys ws → VRs Γ μ H (xs ++ ys) (us ++ ws)
  | _, _, _, _, .nil, s => s
  | _, _, _, _, .cons r t, s => .cons r (VRs.append t s)
theorem VRs.take : ∀ {xs : List D} {us : List V} (n : Nat), VRs Γ μ H xs us → VRs Γ μ H (xs.take n) (us.take n)
  | _, _, 0, _ => by simpa using .nil
  | _, _, _ + 1, .nil => .nil
  | _, _, n + 1, .cons r t => .cons r (VRs.take n t)
theorem VRs.drop : ∀ {xs : List D} {us : List V} (n : Nat), VRs Γ μ H xs us → VRs Γ μ H (xs.drop n) (us.drop n)
  | _, _, 0, r => r
  | _, _, _ + 1, .nil => .nil
  | _, _, n + 1, .cons _ t => VRs.drop n t
theorem VRs.set {d : D} {v : V} (r : VR Γ μ H d v) : ∀ {xs : List D} {us : List V} (i : Nat), VRs Γ μ H xs us → VRs Γ μ H (xs.set i d) (us.set i v)
  | _, _, _, .nil => .nil
  | _, _, 0, .cons _ t => .cons r t
  | _, _, i + 1, .cons q t => .cons q (VRs.set r i t)
theorem VRs.eraseIdx : ∀ {xs : List D} {us : List V} (i : Nat), VRs Γ μ H xs us → VRs Γ μ H (xs.eraseIdx i) (us.eraseIdx i)
  | _, _, _, .nil => .nil
  | _, _, 0, .cons _ t => t
  | _, _, i + 1, .cons q t => .cons q (VRs.eraseIdx i t)
theorem VRs.reverse {xs : List D} {us : List V} (h : VRs Γ μ H xs us) : VRs Γ μ H xs.reverse us.reverse := by
  induction xs generalizing us with
  | nil => cases h; exact .nil
  | cons x xs ih =>
    cases h with
    | cons a b =>
      rw [List.reverse_cons, List.reverse_cons]
      exact (ih b).append (.cons a .nil)
theorem FRs.lookup {f : Str} : ∀ {ds : List (Str × D)} {vs : List (Str × V)} {d : D}, FRs Γ μ H ds vs → ds.lookup f = some d → ∃ v, vs.lookup f = some v ∧ VR Γ μ H d v
  | _, _, _, .nil, e => by simp at e
  | (k, x) :: r, _, d, .cons (v := y) a b, e => by
    rw [List.lookup_cons] at e
    rw [List.lookup_cons]
    cases q : f == k with
    | true => rw [q] at e; simp at e; subst e; exact ⟨_, rfl, a⟩
    | false => rw [q] at e; exact FRs.lookup b e
theorem FRs.lookup_none {f : Str} : ∀ {ds : List (Str × D)} {vs : List (Str × V)}, FRs Γ μ H ds vs → ds.lookup f = none → vs.lookup f = none
  | _, _, .nil, e => rfl
  | (k, x) :: r, _, .cons (v := y) a b, e => by
    rw [List.lookup_cons] at e
    rw [List.lookup_cons]
    cases q : f == k with
    | true => rw [q] at e; simp at e
    | false => rw [q] at e; exact FRs.lookup_none b e
theorem FRs.length : ∀ {d v}, FRs Γ μ H d v → d.length = v.length
  | _, _, .nil => rfl
  | _, _, .cons _ b => by rw [List.length_cons, List.length_cons, FRs.length b]
/-- an attribute stored -/
def putFd (f : Str) (v : D) : List (Str × D) → List (Str × D)
  | [] => [(f, v)]
  | (g, x) :: r => if g = f then (g, v) :: r else (g, x) :: putFd f v r
theorem FRs.put {f : Str} {d : D} {v : V} (r : VR Γ μ H d v) : ∀ {ds : List (Str × D)} {vs : List (Str × V)}, FRs Γ μ H ds vs → FRs Γ μ H (putFd f d ds) (putF f v vs)
  | _, _, .nil => .cons r .nil
  | (k, x) :: t, _, .cons (v := y) a b => by
    unfold putF putFd
    by_cases h : k = f
    · rw [if_pos h, if_pos h]
      exact .cons r b
    · rw [if_neg h, if_neg h]
      exact .cons a (FRs.put r b)
theorem KRs.length : ∀ {d v}, KRs Γ μ H d v → d.length = v.length
  | _, _, .nil => rfl
  | _, _, .cons _ b => by rw [List.length_cons, List.length_cons, KRs.length b]
theorem TRs.length : ∀ {d v}, TRs Γ μ H d v → d.length = v.length
  | _, _, .nil => rfl
  | _, _, .cons _ b => by rw [List.length_cons, List.length_cons, TRs.length b]
end
/-- the same data under another map: every object that is looked at stays -/
structure Seen (Γ : Nat → Addr) (μ : Mp) (H : Hp) (μ' : Mp) (H' : Hp) : Prop where
  pre : ∃ ν, μ'.cells = μ.cells ++ ν
  kp : ∀ p o, H p = some o → p ∉ μ → p ∉ μ' ∧ Up o (H' p)
theorem Seen.keep {Γ : Nat → Addr} {μ μ' : Mp} {H H' : Hp} (s : Seen Γ μ H μ' H') (p : Addr) (o : HO) (h : H p = some o) (n : p ∉ μ) (k : isHard o = true := by rfl) : p ∉ μ' ∧ H' p = some o := ⟨(s.kp p o h n).1, (s.kp p o h n).2.hard k⟩
section
variable {Γ : Nat → Addr} {μ μ' : Mp} {H H' : Hp}
theorem Seen.at (s : Seen Γ μ H μ' H') {n : Nat} {p : Addr} (h : μ.cells[n]? = some p) : μ'.cells[n]? = some p := by
  obtain ⟨ν, e⟩ := s.pre
  rw [e, List.getElem?_append_left]
  · exact h
  · exact (List.getElem?_eq_some_iff.mp h).1
theorem Step.seen (s : Step μ H μ' H') : Seen Γ μ H μ' H' := ⟨s.pre, s.kp⟩
theorem Seen.trans {μ2 : Mp} {H2 : Hp} (a : Seen Γ μ H μ' H') (b : Seen Γ μ' H' μ2 H2) : Seen Γ μ H μ2 H2 := by
  refine ⟨?_, fun p o h n => ?_⟩
  · obtain ⟨x, e⟩ := a.pre
    obtain ⟨y, f⟩ := b.pre
    exact ⟨x ++ y, by rw [f, e, List.append_assoc]⟩
  · obtain ⟨n1, h1⟩ := a.kp p o h n
    have nb : p ∉ μ2 := by
      rcases h1 with h1 | ⟨ob, h1, _⟩
      · exact (b.kp p _ h1 n1).1
      · exact (b.kp p _ h1 n1).1
    exact ⟨nb, h1.trans fun u e => (b.kp p u e n1).2⟩
theorem Seen.refl : Seen Γ μ H μ H := ⟨⟨[], by simp⟩, fun _ _ h n => ⟨n, .inl h⟩⟩
theorem Seen.rd (s : Seen Γ μ H μ' H') {p : Addr} {u : HO} (n : p ∉ μ) (h : Rd H p u) : p ∉ μ' ∧ Rd H' p u := by
  rcases h with h | ⟨o, h⟩
  · obtain ⟨a, b⟩ := s.kp p _ h n
    rcases b with b | ⟨ob, b, _⟩
    · exact ⟨a, .inl b⟩
    · exact ⟨a, .inr ⟨ob, b⟩⟩
  · obtain ⟨a, b⟩ := s.kp p _ h n
    exact ⟨a, .inr ⟨o, b.hard rfl⟩⟩
mutual
theorem VR.seen (s : Seen Γ μ H μ' H') : ∀ {d v}, VR Γ μ H d v → VR Γ μ' H' d v
  | _, _, .non => .non
  | _, _, .bl b => .bl b
  | _, _, .int b => .int b
  | _, _, .str b => .str b
  | _, _, .ty b => .ty b
  | _, _, .gl b => .gl b
  | _, _, .loc h => .loc (s.at h)
  | _, _, .tup n h r => .tup (s.keep _ _ h n).1 (s.keep _ _ h n).2 (VRs.seen s r)
  | _, _, .lst n h r => .lst (s.keep _ _ h n).1 (s.keep _ _ h n).2 (VRs.seen s r)
  | _, _, .scr n h r => .scr (s.rd n h).1 (s.rd n h).2 (VRs.seen s r)
  | _, _, .dk n h r => .dk (s.rd n h).1 (s.rd n h).2 (KRs.seen s r)
  | _, _, .dt n h r => .dt (s.rd n h).1 (s.rd n h).2 (TRs.seen s r)
  | _, _, .obj n h r => .obj (s.keep _ _ h n).1 (s.keep _ _ h n).2 (FRs.seen s r)
theorem VRs.seen (s : Seen Γ μ H μ' H') : ∀ {d v}, VRs Γ μ H d v → VRs Γ μ' H' d v
  | _, _, .nil => .nil
  | _, _, .cons a b => .cons (VR.seen s a) (VRs.seen s b)
theorem KRs.seen (s : Seen Γ μ H μ' H') : ∀ {d v}, KRs Γ μ H d v → KRs Γ μ' H' d v
  | _, _, .nil => .nil
  | _, _, .cons a b => .cons (VR.seen s a) (KRs.seen s b)
theorem TRs.seen (s : Seen Γ μ H μ' H') : ∀ {d v}, TRs Γ μ H d v → TRs Γ μ' H' d v
  | _, _, .nil => .nil
  | _, _, .cons a b => .cons (VR.seen s a) (TRs.seen s b)
theorem FRs.seen (s : Seen Γ μ H μ' H') : ∀ {d v}, FRs Γ μ H d v → FRs Γ μ' H' d v
  | _, _, .nil => .nil
  | _, _, .cons a b => .cons (VR.seen s a) (FRs.seen s b)
end
theorem OR.seen {o : O} {p : Addr} (s : Seen Γ μ H μ' H') (k : ∀ u, H p = some u → H' p = some u) (h : OR Γ μ H o p) : OR Γ μ' H' o p := by
  cases h with
  | lst h r => exact .lst (k _ h) (r.seen s)
  | dk h r => exact .dk (k _ h) (r.seen s)
  | dt h r => exact .dt (k _ h) (r.seen s)
  | ins h r => exact .ins (k _ h) (r.seen s)
end

end Ev
namespace Ev
open PySem L2
abbrev Sg := List (Option D)
abbrev F1 := Sg → Sto → Res D
abbrev FT := Sg → Sto → Res Bool
abbrev FA := Sg → Sto → Res (List D)
/-- the largest list -/
abbrev line : Nat := 16777216
theorem line_le {n : Nat} (h : n ≤ line) : n ≤ sizeLine := by rw [sizeLine_eq]; exact h

section
variable (Γ : Nat → Addr)
structure SR (k : Nat) (μ : Mp) (H : Hp) (σ : Sg) (σ' : St) : Prop where
  len : σ'.length = σ.length
  kk : σ'.length = k
  at_ : ∀ (i : Nat) (d : D), σ[i]? = some (some d) → ∃ v, σ'[i]? = some (some v) ∧ VR Γ μ H d v
structure At (k : Nat) (μ : Mp) (H : Hp) (σ : Sg) (S : Sto) (σ' : St) : Prop where
  sr : SR Γ k μ H σ σ'
  mr : MR Γ μ S H
/-- an exception as the machine has it -/
def XR (μ : Mp) (H : Hp) (x : XV) (cls : Value) (d : Option Addr) : Prop :=
  (match x.cls with | .gl g => cls = .ref (Γ g) | .ty n => cls = .type n | _ => False) ∧
  (x.fs = [] ∨ ∃ dd fs', d = some dd ∧ dd ∉ μ ∧ H dd = some (.xd fs') ∧ FRs Γ μ H x.fs fs')
def KD (μ : Mp) (H : Hp) (Q : VK) : D → Sto → Prop := fun d S' => ∀ μ' v' H', Step μ H μ' H' → MR Γ μ' S' H' → VR Γ μ' H' d v' → Q v' H'
def KB (μ : Mp) (H : Hp) (Q : Bool → Hp → Prop) : Bool → Sto → Prop := fun d S' => ∀ μ' H', Step μ H μ' H' → MR Γ μ' S' H' → Q d H'
def KL (μ : Mp) (H : Hp) (Q : List V → Hp → Prop) : List D → Sto → Prop := fun d S' => ∀ μ' v' H', Step μ H μ' H' → MR Γ μ' S' H' → VRs Γ μ' H' d v' → Q v' H'
def KE (W : WX) (n : Nat) (μ : Mp) (H : Hp) : XV → Sto → Prop := fun x S' => ∀ μ' H' cls d (σ1 : St), Step μ H μ' H' → MR Γ μ' S' H' → XR Γ μ' H' x cls d → σ1.length = n → W cls d σ1 H'
/-- the reading of an expression, a test, an argument list: as f says -/
def TEv (W : WX) (k : Nat) (f : F1) : TE := fun σ' H Q => ∃ μ σ S, At Γ k μ H σ S σ' ∧ (f σ S).Sat (KD Γ μ H Q) (KE Γ W k μ H)
def TTv (W : WX) (k : Nat) (f : FT) : TT := fun σ' H Q => ∃ μ σ S, At Γ k μ H σ S σ' ∧ (f σ S).Sat (KB Γ μ H Q) (KE Γ W k μ H)
def TAv (W : WX) (k : Nat) (f : FA) : TA := fun σ' H Q => ∃ μ σ S, At Γ k μ H σ S σ' ∧ (f σ S).Sat (KL Γ μ H Q) (KE Γ W k μ H)
def SE (X : Cx) (W : WX) (e : Expr) (f : F1) : Prop := PE X e (TEv Γ W X.N.length f)
def ST (X : Cx) (W : WX) (e : Expr) (f : FT) : Prop := PT X e (TTv Γ W X.N.length f)
def SW (X : Cx) (W : WX) (e : Expr) (f : FT) : Prop := PW X e (TTv Γ W X.N.length f)
def SA (X : Cx) (W : WX) (es : List Expr) (f : FA) : Prop := PA X es (TAv Γ W X.N.length f)
end
theorem PE.imp {X : Cx} {e : Expr} {t t' : TE} (h : PE X e t) (hi : ∀ σ H Q, t' σ H Q → t σ H Q) : PE X e t' := ⟨fun pins s σ H Q I q => h.run pins s σ H Q I (hi σ H Q q)⟩
theorem PT.imp {X : Cx} {e : Expr} {t t' : TT} (h : PT X e t) (hi : ∀ σ H Q, t' σ H Q → t σ H Q) : PT X e t' := ⟨fun pins s σ H Q I q => h.run pins s σ H Q I (hi σ H Q q)⟩
theorem PW.imp {X : Cx} {e : Expr} {t t' : TT} (h : PW X e t) (hi : ∀ σ H Q, t' σ H Q → t σ H Q) : PW X e t' := ⟨fun whole pins s σ H Q I q => h.run whole pins s σ H Q I (hi σ H Q q)⟩
theorem PA.imp {X : Cx} {e : List Expr} {t t' : TA} (h : PA X e t) (hi : ∀ σ H Q, t' σ H Q → t σ H Q) : PA X e t' := ⟨fun pos pins s σ H Q I q => h.run pos pins s σ H Q I (hi σ H Q q)⟩
theorem PS.imp {X : Cx} {e : Stmt} {t t' : TS} (h : PS X e t) (hi : ∀ D σ H, t' D σ H → t D σ H) : PS X e t' := ⟨fun pins s σ H D I q => h.run pins s σ H D I (hi D σ H q)⟩
theorem PSs.imp {X : Cx} {e : List Stmt} {t t' : TS} (h : PSs X e t) (hi : ∀ D σ H, t' D σ H → t D σ H) : PSs X e t' := ⟨fun pins s σ H D I q => h.run pins s σ H D I (hi D σ H q)⟩

section
variable {Γ : Nat → Addr} {W : WX} {k : Nat} {μ μ1 : Mp} {H H1 : Hp} {σ : Sg} {S S1 : Sto} {σ' : St}
theorem SR.mono (a : SR Γ k μ H σ σ') (s : Step μ H μ1 H1) : SR Γ k μ1 H1 σ σ' := ⟨a.len, a.kk, fun i d h => let ⟨v, h1, h2⟩ := a.at_ i d h; ⟨v, h1, h2.mono s⟩⟩
theorem At.mono (a : At Γ k μ H σ S σ') (s : Step μ H μ1 H1) (m : MR Γ μ1 S1 H1) : At Γ k μ1 H1 σ S1 σ' := ⟨a.sr.mono s, m⟩
theorem KE.mono {n : Nat} (s : Step μ H μ1 H1) {x : XV} {S2 : Sto} (h : KE Γ W n μ H x S2) : KE Γ W n μ1 H1 x S2 := fun μ' H' cls d σ1 s' m xr hl => h μ' H' cls d σ1 (s.trans s') m xr hl
theorem KD.mono {Q : VK} (s : Step μ H μ1 H1) {d : D} {S2 : Sto} (h : KD Γ μ H Q d S2) : KD Γ μ1 H1 Q d S2 := fun μ' v' H' s' m r => h μ' v' H' (s.trans s') m r
theorem KB.mono {Q : Bool → Hp → Prop} (s : Step μ H μ1 H1) {d : Bool} {S2 : Sto} (h : KB Γ μ H Q d S2) : KB Γ μ1 H1 Q d S2 := fun μ' H' s' m => h μ' H' (s.trans s') m
theorem KL.mono {Q : List V → Hp → Prop} (s : Step μ H μ1 H1) {d : List D} {S2 : Sto} (h : KL Γ μ H Q d S2) : KL Γ μ1 H1 Q d S2 := fun μ' v' H' s' m r => h μ' v' H' (s.trans s') m r

/-- give the reading of a part -/
theorem tev_of {f : F1} {Q : VK} {R : D → Sto → Prop} (a : At Γ k μ H σ S σ') (h : (f σ S).Sat R (KE Γ W k μ H))
    (kk : ∀ d S1 μ1 v1 H1, R d S1 → Step μ H μ1 H1 → At Γ k μ1 H1 σ S1 σ' → VR Γ μ1 H1 d v1 → Q v1 H1) : TEv Γ W k f σ' H Q :=
  ⟨μ, σ, S, a, h.mono (fun d S1 r μ1 v1 H1 s m vr => kk d S1 μ1 v1 H1 r s (a.mono s m) vr) fun _ _ x => x⟩
theorem ttv_of {f : FT} {Q : Bool → Hp → Prop} {R : Bool → Sto → Prop} (a : At Γ k μ H σ S σ') (h : (f σ S).Sat R (KE Γ W k μ H))
    (kk : ∀ d S1 μ1 H1, R d S1 → Step μ H μ1 H1 → At Γ k μ1 H1 σ S1 σ' → Q d H1) : TTv Γ W k f σ' H Q :=
  ⟨μ, σ, S, a, h.mono (fun d S1 r μ1 H1 s m => kk d S1 μ1 H1 r s (a.mono s m)) fun _ _ x => x⟩
theorem tav_of {f : FA} {Q : List V → Hp → Prop} {R : List D → Sto → Prop} (a : At Γ k μ H σ S σ') (h : (f σ S).Sat R (KE Γ W k μ H))
    (kk : ∀ d S1 μ1 v1 H1, R d S1 → Step μ H μ1 H1 → At Γ k μ1 H1 σ S1 σ' → VRs Γ μ1 H1 d v1 → Q v1 H1) : TAv Γ W k f σ' H Q :=
  ⟨μ, σ, S, a, h.mono (fun d S1 r μ1 v1 H1 s m vr => kk d S1 μ1 v1 H1 r s (a.mono s m) vr) fun _ _ x => x⟩
/-- what is wanted, seen from later -/
theorem Sat.later {r : Res D} {Q : VK} {n : Nat} (s : Step μ H μ1 H1) (h : r.Sat (KD Γ μ H Q) (KE Γ W n μ H)) : r.Sat (KD Γ μ1 H1 Q) (KE Γ W n μ1 H1) := h.mono (fun _ _ => KD.mono s) fun _ _ => KE.mono s
theorem Sat.laterB {r : Res Bool} {Q : Bool → Hp → Prop} {n : Nat} (s : Step μ H μ1 H1) (h : r.Sat (KB Γ μ H Q) (KE Γ W n μ H)) : r.Sat (KB Γ μ1 H1 Q) (KE Γ W n μ1 H1) := h.mono (fun _ _ => KB.mono s) fun _ _ => KE.mono s
theorem Sat.laterL {r : Res (List D)} {Q : List V → Hp → Prop} {n : Nat} (s : Step μ H μ1 H1) (h : r.Sat (KL Γ μ H Q) (KE Γ W n μ H)) : r.Sat (KL Γ μ1 H1 Q) (KE Γ W n μ1 H1) := h.mono (fun _ _ => KL.mono s) fun _ _ => KE.mono s

/-! ### the store -/
theorem nodup_at {α : Type} {l : List α} (h : l.Nodup) {i j : Nat} (hi : i < l.length) (hj : j < l.length) (e : l[i] = l[j]) : i = j := by
  rw [List.nodup_iff_pairwise_ne, List.pairwise_iff_getElem] at h
  rcases Nat.lt_trichotomy i j with z | z | z
  · exact absurd e (h i j hi hj z)
  · exact z
  · exact absurd e.symm (h j i hj hi z)
theorem MR.mem (m : MR Γ μ S H) {p : Addr} (h : p ∈ μ) : ∃ o, H p = some o := by
  rcases h with h | h
  · obtain ⟨i, hi, e⟩ := List.mem_iff_getElem.mp h
    have hS : i < S.length := by rw [← m.len]; exact hi
    have q := m.ob i _ p (List.getElem?_eq_getElem hS) (by rw [← e]; exact List.getElem?_eq_getElem hi)
    generalize S[i] = o at q
    cases q with
    | lst h _ => exact ⟨_, h⟩
    | dk h _ => exact ⟨_, h⟩
    | dt h _ => exact ⟨_, h⟩
    | ins h _ => exact ⟨_, h⟩
  · obtain ⟨o, e, _⟩ := (m.hd p h).1
    exact ⟨o, e⟩
theorem MR.fresh (m : MR Γ μ S H) {p : Addr} (h : H p = none) : p ∉ μ := fun q => by
  obtain ⟨o, e⟩ := m.mem q
  rw [h] at e
  cases e
theorem Step.new {μ : Mp} {H : Hp} {p : Addr} {o : HO} (h : H p = none) : Step μ H μ (upd H p o) :=
  ⟨⟨[], by simp⟩, rfl, fun q u e n => ⟨n, by rw [upd_ne (ne_of_none e h)]; exact .inl e⟩, fun q u _ e => by rw [upd_ne (ne_of_none e h)]; exact e⟩
theorem OR.mono {o : O} {p : Addr} (s : Step μ H μ1 H1) (k : ∀ u, H p = some u → H1 p = some u) (h : OR Γ μ H o p) : OR Γ μ1 H1 o p := by
  cases h with
  | lst h r => exact .lst (k _ h) (r.mono s)
  | dk h r => exact .dk (k _ h) (r.mono s)
  | dt h r => exact .dt (k _ h) (r.mono s)
  | ins h r => exact .ins (k _ h) (r.mono s)
theorem keep_new {H : Hp} {p q : Addr} {o : HO} (h : H p = none) {u : HO} (e : H q = some u) : upd H p o q = some u := by
  rw [upd_ne (ne_of_none e h)]
  exact e
/-- a new object that is no cell -/
theorem MR.new (m : MR Γ μ S H) {p : Addr} {o : HO} (h : H p = none) : MR Γ μ S (upd H p o) :=
  ⟨m.len, m.nd, fun i u q hi hq => (m.ob i u q hi hq).mono (Step.new h) fun u e => keep_new h e, fun q hq => let ⟨⟨u, e, t⟩, n⟩ := m.hd q hq; ⟨⟨u, keep_new h e, t⟩, n⟩⟩
abbrev Mp.add (μ : Mp) (p : Addr) : Mp := ⟨μ.cells ++ [p], μ.hid⟩
theorem Step.cell {μ : Mp} {H : Hp} {p : Addr} {o : HO} (h : H p = none) : Step μ H (μ.add p) (upd H p o) :=
  ⟨⟨[p], rfl⟩, rfl, fun q u e n => ⟨fun z => by
    have ne := ne_of_none e h
    rcases z with z | z
    · rcases List.mem_append.mp z with z | z
      · exact n (.inl z)
      · exact ne (List.mem_singleton.mp z)
    · exact n (.inr z), .inl (keep_new h e)⟩, fun q u _ e => keep_new h e⟩
/-- a new cell -/
theorem MR.cell (m : MR Γ μ S H) {p : Addr} {o : HO} {u : O} (h : H p = none) (n : OR Γ (μ.add p) (upd H p o) u p) : MR Γ (μ.add p) (S ++ [u]) (upd H p o) := by
  have st : Step μ H (μ.add p) (upd H p o) := Step.cell h
  refine ⟨by show (μ.cells ++ [p]).length = _; rw [List.length_append, List.length_append, m.len] <;> rfl, ?_, fun i v q hi hq => ?_, fun q hq => ?_⟩
  · show (μ.cells ++ [p]).Nodup
    rw [List.nodup_append]
    refine ⟨m.nd, by simp, fun a ha b hb e => ?_⟩
    simp only [List.mem_singleton] at hb
    subst hb e
    exact m.fresh h (.inl ha)
  · have hq : (μ.cells ++ [p])[i]? = some q := hq
    by_cases hlt : i < S.length
    · rw [List.getElem?_append_left hlt] at hi
      rw [List.getElem?_append_left (by rw [m.len]; exact hlt)] at hq
      exact (m.ob i v q hi hq).mono st fun u e => keep_new h e
    · have e1 : i = S.length := by
        have := (List.getElem?_eq_some_iff.mp hi).1
        simp at this
        omega
      subst e1
      rw [List.getElem?_append_right (Nat.le_refl _)] at hi
      rw [List.getElem?_append_right (by rw [m.len] <;> exact Nat.le_refl _)] at hq
      simp [m.len] at hi hq
      subst hi hq
      exact n
  · obtain ⟨⟨u, e, t⟩, n⟩ := m.hd q hq
    refine ⟨⟨u, keep_new h e, t⟩, fun z => ?_⟩
    rcases List.mem_append.mp z with z | z
    · exact n z
    · exact ne_of_none e h (List.mem_singleton.mp z)
/-- a cell is written -/
theorem Step.write {μ : Mp} {H : Hp} {p : Addr} {o : HO} (h : p ∈ μ.cells) (nh : p ∉ μ.hid) : Step μ H μ (upd H p o) :=
  ⟨⟨[], by simp⟩, rfl, fun q u e n => ⟨n, by rw [upd_ne (fun z => n (by rw [z]; exact .inl h))]; exact .inl e⟩, fun q u hq e => by rw [upd_ne (fun z => nh (by rw [← z]; exact hq))]; exact e⟩
theorem MR.notHid (m : MR Γ μ S H) {p : Addr} (h : p ∈ μ.cells) : p ∉ μ.hid := fun z => (m.hd p z).2 h
/-- what is a cell or hidden is written: the other data are seen as before -/
theorem Seen.write {Γ : Nat → Addr} {μ : Mp} {H : Hp} {p : Addr} {o : HO} (h : p ∈ μ) : Seen Γ μ H μ (upd H p o) :=
  ⟨⟨[], by simp⟩, fun q u e n => ⟨n, by rw [upd_ne (fun z => n (by rw [z]; exact h))]; exact .inl e⟩⟩
theorem MR.write (m : MR Γ μ S H) {n : Nat} {p : Addr} {o : HO} {u : O} (h : μ.cells[n]? = some p) (w : OR Γ μ (upd H p o) u p) : MR Γ μ (S.set n u) (upd H p o) := by
  have hp : p ∈ μ.cells := List.mem_of_getElem? h
  refine ⟨by rw [List.length_set]; exact m.len, m.nd, fun i v q hi hq => ?_, fun q hq => ?_⟩
  · by_cases e : i = n
    · subst e
      rw [h] at hq
      cases hq
      have hlt : i < S.length := by rw [← m.len]; exact (List.getElem?_eq_some_iff.mp h).1
      rw [List.getElem?_set_self hlt] at hi
      cases hi
      exact w
    · rw [List.getElem?_set_ne (fun z => e z.symm)] at hi
      have hne : q ≠ p := fun z => by
        subst z
        have h1 := (List.getElem?_eq_some_iff.mp hq)
        have h2 := (List.getElem?_eq_some_iff.mp h)
        obtain ⟨a1, b1⟩ := h1
        obtain ⟨a2, b2⟩ := h2
        exact e (nodup_at m.nd a1 a2 (by rw [b1, b2]))
      exact (m.ob i v q hi hq).seen (Seen.write (.inl hp)) fun u e => by rw [upd_ne hne]; exact e
  · obtain ⟨⟨u, e, t⟩, n⟩ := m.hd q hq
    exact ⟨⟨u, by rw [upd_ne (fun z => n (by rw [z]; exact hp))]; exact e, t⟩, n⟩
/-- what is hidden is written -/
theorem MR.writeH (m : MR Γ μ S H) {p : Addr} {o : HO} (h : p ∈ μ.hid) (nt : NT o := by intro _ z; cases z) : MR Γ μ S (upd H p o) := by
  have hp := (m.hd p h).2
  refine ⟨m.len, m.nd, fun i v q hi hq => ?_, fun q hq => ?_⟩
  · have hne : q ≠ p := fun z => hp (by rw [← z]; exact List.mem_of_getElem? hq)
    exact (m.ob i v q hi hq).seen (Seen.write (.inr h)) fun u e => by rw [upd_ne hne]; exact e
  · obtain ⟨⟨u, e, t⟩, n⟩ := m.hd q hq
    by_cases z : q = p
    · subst z
      exact ⟨⟨o, upd_same, nt⟩, n⟩
    · exact ⟨⟨u, by rw [upd_ne z]; exact e, t⟩, n⟩
/-! ### lists and tuples by their data -/
def seqL (d : D) (S : Sto) : Option (List D) := match d with
  | .lst xs => some xs
  | .loc n => match S[n]? with
    | some (.lst xs) => some xs
    | _ => none
  | _ => none
def seqA (d : D) (S : Sto) : Option (List D) := match d with
  | .scr xs => some xs
  | .lst xs => some xs
  | .loc n => match S[n]? with
    | some (.lst xs) => some xs
    | _ => none
  | _ => none
theorem cell_at (m : MR Γ μ S H) {n : Nat} {v : V} (r : VR Γ μ H (.loc n) v) {o : O} (h : S[n]? = some o) : ∃ p, v = .ref p ∧ μ.cells[n]? = some p ∧ OR Γ μ H o p := by
  cases r with
  | loc e => exact ⟨_, rfl, e, m.ob _ _ _ h e⟩
theorem seqL_at (m : MR Γ μ S H) {d : D} {v : V} (r : VR Γ μ H d v) {xs : List D} (h : seqL d S = some xs) : ∃ p vs, v = .ref p ∧ H p = some (.lst vs) ∧ VRs Γ μ H xs vs := by
  unfold seqL at h
  split at h
  · cases h
    cases r with
    | lst n e rs => exact ⟨_, _, rfl, e, rs⟩
  · split at h
    · rename_i e
      cases h
      obtain ⟨p, ev, hp, o⟩ := cell_at m r e
      cases o with
      | lst e rs => exact ⟨p, _, ev, e, rs⟩
    · cases h
  · cases h
theorem seqA_at (K : PySem.W.Frag) (m : MR Γ μ S H) {d : D} {v : V} (r : VR Γ μ H d v) {xs : List D} (h : seqA d S = some xs) : ∃ p vs, v = .ref p ∧ SqL K H p vs ∧ VRs Γ μ H xs vs := by
  unfold seqA at h
  split at h
  · cases h
    cases r with
    | scr n e rs => exact ⟨_, _, rfl, .inl e, rs⟩
  · cases h
    cases r with
    | lst n e rs => exact ⟨_, _, rfl, .inl (.inl e), rs⟩
  · split at h
    · rename_i e
      cases h
      obtain ⟨p, ev, hp, o⟩ := cell_at m r e
      cases o with
      | lst e rs => exact ⟨p, _, ev, .inl (.inl e), rs⟩
    · cases h
  · cases h
theorem tup_at (K : PySem.W.Frag) {xs : List D} {v : V} (r : VR Γ μ H (.tup xs) v) : ∃ p vs, v = .ref p ∧ SqT K H p vs ∧ VRs Γ μ H xs vs := by
  cases r with
  | tup n e rs => exact ⟨_, _, rfl, .inl (.inl e), rs⟩
/-- a new list, a new tuple -/
theorem KD.newL {Q : VK} {xs : List D} {vs : List V} (k : KD Γ μ H Q (.lst xs) S) (m : MR Γ μ S H) (r : VRs Γ μ H xs vs) {p : Addr} (h : H p = none) : Q (.ref p) (upd H p (.lst vs)) :=
  k μ _ _ (Step.new h) (m.new h) (.lst (m.fresh h) upd_same (r.mono (Step.new h)))
theorem KD.newT {Q : VK} {xs : List D} {vs : List V} (k : KD Γ μ H Q (.tup xs) S) (m : MR Γ μ S H) (r : VRs Γ μ H xs vs) {p : Addr} (h : H p = none) : Q (.ref p) (upd H p (.tup vs)) :=
  k μ _ _ (Step.new h) (m.new h) (.tup (m.fresh h) upd_same (r.mono (Step.new h)))
theorem KD.newC {Q : VK} {xs : List D} {vs : List V} (k : KD Γ μ H Q (.loc S.length) (S ++ [.lst xs])) (m : MR Γ μ S H) (r : VRs Γ μ H xs vs) {p : Addr} (h : H p = none) : Q (.ref p) (upd H p (.lst vs)) :=
  k (μ.add p) _ _ (Step.cell h) (m.cell h (.lst upd_same (r.mono (Step.cell h)))) (.loc (by show (μ.cells ++ [p])[S.length]? = some p; rw [← m.len, List.getElem?_append_right (Nat.le_refl _)]; simp))
theorem KD.here {Q : VK} {d : D} {v : V} (k : KD Γ μ H Q d S) (m : MR Γ μ S H) (r : VR Γ μ H d v) : Q v H := k μ v H Step.refl m r
end
end Ev
namespace Ev
open PySem PySem.Spec PyProof.Rows L2
/-! ### names and constants -/
def eVar (i : Nat) : F1 := fun σ S => match σ[i]? with
  | some (some d) => .ok d S
  | _ => .no
def eC (d : D) : F1 := fun _ S => .ok d S
section
variable {Γ : Nat → Addr} {W : WX} {X : Cx} {pos : Pos}
theorem s_var {i : Nat} {x : Str} (hN : X.N[i]? = some x) (hv : Vis X.env.scope x := by first | exact Or.inl rfl | exact Or.inr (Or.inl rfl) | exact Or.inr (Or.inr rfl)) (hd : (x == ("__debug__" : Str)) = false := by decide) (hcd : (x == ("__classdict__" : Str)) = false := by decide) : SE Γ X W (.Name x pos) (eVar i) := by
  refine PE.imp (pe_var hN hv hd hcd) fun σ' H Q h => ?_
  obtain ⟨μ, σ, S, a, h⟩ := h
  unfold eVar at h
  split at h
  · rename_i d e
    obtain ⟨v, ev, r⟩ := a.sr.at_ i d e
    exact ⟨v, ev, KD.here h a.mr r⟩
  · exact h.elim
theorem s_const {e : Expr} {d : D} {v : V} (h : PE X e (tC v)) (r : ∀ μ H, VR Γ μ H d v) : SE Γ X W e (eC d) := by
  refine PE.imp h fun σ' H Q h => ?_
  obtain ⟨μ, σ, S, a, h⟩ := h
  exact KD.here h a.mr (r _ _)
theorem s_int {i j} : SE Γ X W (.Constant (.int i) j pos) (eC (.int i)) := s_const pe_int fun _ _ => .int _
theorem s_bl {i j} : SE Γ X W (.Constant (.bool i) j pos) (eC (.bl i)) := s_const pe_bl fun _ _ => .bl _
theorem s_non {j} : SE Γ X W (.Constant .none j pos) (eC .non) := s_const pe_non fun _ _ => .non
theorem s_str {i j} : SE Γ X W (.Constant (.str i) j pos) (eC (.str i)) := s_const pe_str fun _ _ => .str _
/-- a class or a def of the text, as a value -/
theorem s_glob {x : Str} {g : Nat} (hg : Gl X x) (hm : X.mg x = some (.ref (Γ g))) (hd : (x == ("__debug__" : Str)) = false := by decide) : SE Γ X W (.Name x pos) (eC (.gl g)) := s_const (pe_glob (v := .ref (Γ g)) hg hm rfl hd) fun _ _ => .gl _
/-- a constant of the module -/
theorem s_gstr {x : Str} {z : Str} (hg : Gl X x) (hm : ∃ t, X.mg x = some (.str z t)) (hd : (x == ("__debug__" : Str)) = false := by decide) : SE Γ X W (.Name x pos) (eC (.str z)) := by
  obtain ⟨t, hm⟩ := hm
  exact s_const (pe_glob (v := .str z) hg hm ⟨t, rfl⟩ hd) fun _ _ => .str _
/-- a built-in type, as a value -/
theorem s_ty {x : Str} {n : String} (hg : Gl X x) (hm : X.mg x = none) (hv : bootBuiltins x = some (.type n)) (hn : x ≠ "__name__" := by decide) (hd : (x == ("__debug__" : Str)) = false := by decide) : SE Γ X W (.Name x pos) (eC (.ty n)) :=
  s_const (pe_bltn (v := .ty n) hg hm hv rfl hn hd) fun _ _ => .ty _
end

/-! ### argument lists, displays -/
def aNil : FA := fun _ S => .ok [] S
def aCons (f : F1) (g : FA) : FA := fun σ S => (f σ S).bind fun d S1 => (g σ S1).bind fun ds S2 => .ok (d :: ds) S2
def seqOf (d : D) (S : Sto) : Option (List D) := match d with
  | .tup xs => some xs
  | d => seqA d S
def aStar (f : F1) (g : FA) : FA := fun σ S => (f σ S).bind fun d S1 => match seqOf d S1 with
  | some xs => (g σ S1).bind fun ds S2 => .ok (xs ++ ds) S2
  | none => .no
def eTup (g : FA) : F1 := fun σ S => (g σ S).bind fun ds S1 => if ds.length ≤ line then .ok (.tup ds) S1 else .no
def eLst (g : FA) : F1 := fun σ S => (g σ S).bind fun ds S1 => if ds.length ≤ line then .ok (.lst ds) S1 else .no
/-- a list display that is a cell -/
def eLstM (g : FA) : F1 := fun σ S => (g σ S).bind fun ds S1 => if ds.length ≤ line then .ok (.loc S1.length) (S1 ++ [.lst ds]) else .no
section
variable {Γ : Nat → Addr} {W : WX} {X : Cx} {pos : Pos} {e : Expr} {es : List Expr} {f : F1} {g : FA}
theorem a_nil : SA Γ X W [] aNil := by
  refine PA.imp pa_nil fun σ' H Q h => ?_
  obtain ⟨μ, σ, S, a, h⟩ := h
  exact h μ _ _ Step.refl a.mr .nil
theorem a_cons (he : SE Γ X W e f) (hr : SA Γ X W es g) (hs : starEach (e :: es) X.env = (false, eval e X.env) :: starEach es X.env := by rfl) : SA Γ X W (e :: es) (aCons f g) := by
  refine PA.imp (pa_cons he hr hs) fun σ' H Q h => ?_
  obtain ⟨μ, σ, S, a, h⟩ := h
  refine tev_of a h.of_bind fun d S1 μ1 v1 H1 h1 s1 a1 r1 => ?_
  refine tav_of a1 (h1.of_bind.mono (fun _ _ x => x) fun _ _ => KE.mono s1) fun ds S2 μ2 v2 H2 h2 s2 a2 r2 => ?_
  exact h2 μ2 _ _ (s1.trans s2) a2.mr (.cons (r1.mono s2) r2)
theorem seqOf_at (K : PySem.W.Frag) {μ : Mp} {H : Hp} {S : Sto} (m : MR Γ μ S H) {d : D} {v : V} (r : VR Γ μ H d v) {xs : List D} (h : seqOf d S = some xs) : ∃ p vs, v = .ref p ∧ (SqT K H p vs ∨ SqL K H p vs) ∧ VRs Γ μ H xs vs := by
  unfold seqOf at h
  split at h
  · cases h
    obtain ⟨p, vs, e, q, rs⟩ := tup_at K r
    exact ⟨p, vs, e, .inl q, rs⟩
  · obtain ⟨p, vs, e, q, rs⟩ := seqA_at K m r h
    exact ⟨p, vs, e, .inr q, rs⟩
theorem a_star {p : Pos} (he : SE Γ X W e f) (hr : SA Γ X W es g) (hs : starEach (.Starred e p :: es) X.env = (true, eval e X.env) :: starEach es X.env := by rfl) : SA Γ X W (.Starred e p :: es) (aStar f g) := by
  refine PA.imp (StX.pa_star he hr hs) fun σ' H Q h => ?_
  obtain ⟨μ, σ, S, a, h⟩ := h
  refine tev_of a h.of_bind fun d S1 μ1 v1 H1 h1 s1 a1 r1 => ?_
  split at h1
  · rename_i xs e
    obtain ⟨p, vs, ev, q, rs⟩ := seqOf_at X.K a1.mr r1 e
    refine ⟨p, vs, ev, q, ?_⟩
    refine tav_of a1 (h1.of_bind.mono (fun _ _ x => x) fun _ _ => KE.mono s1) fun ds S2 μ2 v2 H2 h2 s2 a2 r2 => ?_
    exact h2 μ2 _ _ (s1.trans s2) a2.mr ((rs.mono s2).append r2)
  · exact h1.elim
theorem s_tup {x1} (h : SA Γ X W es g) : SE Γ X W (.Tuple es x1 pos) (eTup g) := by
  refine PE.imp (pe_tup h) fun σ' H Q h => ?_
  obtain ⟨μ, σ, S, a, h⟩ := h
  refine tav_of a h.of_bind fun ds S1 μ1 vs H1 h1 s1 a1 r1 => ?_
  split at h1
  · rename_i z
    refine ⟨by rw [← r1.length]; exact line_le z, fun p hp => ?_⟩
    exact KD.newT (KD.mono s1 h1) a1.mr r1 hp
  · exact h1.elim
theorem s_lst (h : SA Γ X W es g) : SE Γ X W (.List es pos) (eLst g) := by
  refine PE.imp (pe_lst h) fun σ' H Q h => ?_
  obtain ⟨μ, σ, S, a, h⟩ := h
  refine tav_of a h.of_bind fun ds S1 μ1 vs H1 h1 s1 a1 r1 => ?_
  split at h1
  · rename_i z
    refine ⟨by rw [← r1.length]; exact line_le z, fun p hp => ?_⟩
    exact KD.newL (KD.mono s1 h1) a1.mr r1 hp
  · exact h1.elim
theorem s_lstM (h : SA Γ X W es g) : SE Γ X W (.List es pos) (eLstM g) := by
  refine PE.imp (pe_lst h) fun σ' H Q h => ?_
  obtain ⟨μ, σ, S, a, h⟩ := h
  refine tav_of a h.of_bind fun ds S1 μ1 vs H1 h1 s1 a1 r1 => ?_
  split at h1
  · rename_i z
    refine ⟨by rw [← r1.length]; exact line_le z, fun p hp => ?_⟩
    exact KD.newC (KD.mono s1 h1) a1.mr r1 hp
  · exact h1.elim
end

/-! ### operations on values -/
abbrev Op2 := D → D → Sto → Res D
abbrev Op1 := D → Sto → Res D
/-- the machine's operation fm does what op says -/
def OkOp (Γ : Nat → Addr) (X : Cx) (W : WX) (fm : Value → Value → Sem Value) (op : Op2) : Prop :=
  ∀ (pins : List (Addr × Obj)) (s : Shared) (σ' : L2.St) (H : Hp) (x' y' : V) (v u : Value) (Q : VK) (μ : Mp) (x y : D) (S : Sto), Inv X pins σ' H s → RelV x' v → RelV y' u → VR Γ μ H x x' → VR Γ μ H y y' → MR Γ μ S H →
    (op x y S).Sat (KD Γ μ H Q) (KE Γ W X.N.length μ H) → wpAny (model X.prog X.w) X.A (fm v u) (EP X pins σ' Q) X.xe s
def OkUn (Γ : Nat → Addr) (X : Cx) (W : WX) (fm : Value → Sem Value) (op : Op1) : Prop :=
  ∀ (pins : List (Addr × Obj)) (s : Shared) (σ' : L2.St) (H : Hp) (x' : V) (v : Value) (Q : VK) (μ : Mp) (x : D) (S : Sto), Inv X pins σ' H s → RelV x' v → VR Γ μ H x x' → MR Γ μ S H →
    (op x S).Sat (KD Γ μ H Q) (KE Γ W X.N.length μ H) → wpAny (model X.prog X.w) X.A (fm v) (EP X pins σ' Q) X.xe s
def eBin (op : Op2) (f g : F1) : F1 := fun σ S => (f σ S).bind fun x S1 => (g σ S1).bind fun y S2 => op x y S2
def eUn (op : Op1) (f : F1) : F1 := fun σ S => (f σ S).bind fun x S1 => op x S1
def asB (d : D) (S : Sto) : Res Bool := match d with
  | .bl b => .ok b S
  | _ => .no
def tBin (op : Op2) (f g : F1) : FT := fun σ S => (eBin op f g σ S).bind asB
/-- a op b op' c -/
def eChain (op op' : Op2) (f g h : F1) : F1 := fun σ S => (f σ S).bind fun x S1 => (g σ S1).bind fun y S2 => (op x y S2).bind fun z S3 => match z with
  | .bl true => (h σ S3).bind fun w S4 => op' y w S4
  | .bl false => .ok (.bl false) S3
  | _ => .no
def tChain (op op' : Op2) (f g h : F1) : FT := fun σ S => (eChain op op' f g h σ S).bind asB
section
variable {Γ : Nat → Addr} {W : WX} {X : Cx} {pos : Pos} {a b c : Expr} {f g h : F1} {op op' : Op2} {un : Op1}
/-- the reading of two parts and an operation -/
theorem bin2 {fm : Value → Value → Sem Value} (ho : OkOp Γ X W fm op) (ha : SE Γ X W a f) (hb : SE Γ X W b g) {pins : List (Addr × Obj)} {s : Shared} {σ' : L2.St} {H : Hp} {Q : VK} (I : Inv X pins σ' H s) (h : TEv Γ W X.N.length (eBin op f g) σ' H Q) :
    wpAny (model X.prog X.w) X.A (eval a X.env) (fun v s₁ => wpAny (model X.prog X.w) X.A (eval b X.env) (fun u s₂ => wpAny (model X.prog X.w) X.A (fm v u) (EP X pins σ' Q) X.xe s₂) X.xe s₁) X.xe s := by
  obtain ⟨μ, σ, S, at0, h⟩ := h
  refine thn (ha.run pins s σ' H _ I (tev_of at0 h.of_bind fun d S1 μ1 v1 H1 h1 s1 a1 r1 => (⟨d, S1, μ1, h1, s1, a1, r1⟩ : ∃ d S1 μ1, Res.Sat ((g σ S1).bind fun y S2 => op d y S2) (KD Γ μ H Q) (KE Γ W X.N.length μ H) ∧ Step μ H μ1 H1 ∧ At Γ X.N.length μ1 H1 σ S1 σ' ∧ VR Γ μ1 H1 d v1))) fun v s1 q => ?_
  obtain ⟨x', H1, I1, rx, d, S1, μ1, h1, st1, a1, r1⟩ := q
  refine thn (hb.run pins s1 σ' H1 _ I1 (tev_of a1 (h1.of_bind.mono (fun _ _ z => z) fun _ _ => KE.mono st1) fun y S2 μ2 v2 H2 h2 s2 a2 r2 => (⟨y, S2, μ2, h2, s2, a2, r2⟩ : ∃ y S2 μ2, Res.Sat (op d y S2) (KD Γ μ H Q) (KE Γ W X.N.length μ H) ∧ Step μ1 H1 μ2 H2 ∧ At Γ X.N.length μ2 H2 σ S2 σ' ∧ VR Γ μ2 H2 y v2))) fun u s2 q => ?_
  obtain ⟨y', H2, I2, ry, y, S2, μ2, h2, st2, a2, r2⟩ := q
  refine ho pins s2 σ' H2 x' y' v u Q μ2 d y S2 I2 rx ry (r1.mono st2) r2 a2.mr ?_
  exact Sat.later (st1.trans st2) h2
theorem s_bin {o : Operator} (ho : OkOp Γ X W (binaryOp o) op) (ha : SE Γ X W a f) (hb : SE Γ X W b g) : SE Γ X W (.BinOp a o b pos) (eBin op f g) :=
  ⟨fun pins s σ H Q I h => wpAny_BinOp (bin2 ho ha hb I h)⟩
theorem s_un {o : UnaryOp} (ho : OkUn Γ X W (unaryOp o) un) (ha : SE Γ X W a f) : SE Γ X W (.UnaryOp o a pos) (eUn un f) := by
  refine ⟨fun pins s σ' H Q I h => ?_⟩
  obtain ⟨μ, σ, S, at0, h⟩ := h
  refine UnaryOp_ (thn (ha.run pins s σ' H _ I (tev_of at0 h.of_bind fun d S1 μ1 v1 H1 h1 s1 a1 r1 => (⟨d, S1, μ1, h1, s1, a1, r1⟩ : ∃ d S1 μ1, Res.Sat (un d S1) (KD Γ μ H Q) (KE Γ W X.N.length μ H) ∧ Step μ H μ1 H1 ∧ At Γ X.N.length μ1 H1 σ S1 σ' ∧ VR Γ μ1 H1 d v1))) fun v s1 q => ?_)
  obtain ⟨x', H1, I1, rx, d, S1, μ1, h1, st1, a1, r1⟩ := q
  refine ho pins s1 σ' H1 x' v Q μ1 d S1 I1 rx r1 a1.mr ?_
  exact Sat.later st1 h1
theorem s_cmp {o : CmpOp} (ho : OkOp Γ X W (compareOp o) op) (ha : SE Γ X W a f) (hb : SE Γ X W b g) (hm : behindInMarks o b = false) : SE Γ X W (.Compare a [o] [b] pos) (eBin op f g) :=
  ⟨fun pins s σ H Q I h => wpAny_Compare1 (bin2 ho ha hb I h) hm⟩
theorem asB_sat {μ : Mp} {H : Hp} {Q : Bool → Hp → Prop} {E : XV → Sto → Prop} {d : D} {S : Sto} (h : (asB d S).Sat (KB Γ μ H Q) E) : KD Γ μ H (fun v H' => ∃ k, v = .bl k ∧ Q k H') d S := by
  unfold asB at h
  split at h
  · rename_i k
    intro μ' v' H' s m r
    cases r
    exact ⟨k, rfl, h μ' H' s m⟩
  · exact h.elim
theorem asT {μ : Mp} {H : Hp} {n : Nat} {Q : Bool → Hp → Prop} {r : Res D} (h : (r.bind asB).Sat (KB Γ μ H Q) (KE Γ W n μ H)) : r.Sat (KD Γ μ H (fun v H' => ∃ k, v = .bl k ∧ Q k H')) (KE Γ W n μ H) := h.of_bind.mono (fun d S3 q => asB_sat q) fun _ _ z => z
theorem t_cmp {o : CmpOp} (ho : OkOp Γ X W (compareOp o) op) (ha : SE Γ X W a f) (hb : SE Γ X W b g) (hm : behindInMarks o b = false) : ST Γ X W (.Compare a [o] [b] pos) (tBin op f g) := by
  refine ⟨fun pins s σ' H Q I h => ?_⟩
  obtain ⟨μ, σ, S, at0, h⟩ := h
  refine wpAny_isTrue_Compare1 (wpAny_mono (bin2 ho ha hb I ⟨μ, σ, S, at0, asT h⟩) (fun v s1 h1 => wpAny_mono h1 (fun u s2 h2 => wpAny_mono h2 (fun w s3 q => ?_) fun _ _ z => z) fun _ _ z => z) fun _ _ z => z) hm
  obtain ⟨z, H3, I3, r3, k, e, q3⟩ := q
  subst e
  cases r3
  exact wpAny_truthy_bool ⟨H3, I3, q3⟩
end
end Ev
namespace Ev
open PySem PySem.Spec PyProof.Rows L2
section
variable {Γ : Nat → Addr} {W : WX} {X : Cx}
/-- an operation by a rule of the layer -/
theorem ok_of {fm : Value → Value → Sem Value} {op : Op2} {r : R2} (h : OpR X fm r) (hi : ∀ (H : Hp) (x' y' : V) (Q : VK) (μ : Mp) (x y : D) (S : Sto) (n : Nat), VR Γ μ H x x' → VR Γ μ H y y' → MR Γ μ S H → (op x y S).Sat (KD Γ μ H Q) (KE Γ W n μ H) → r x' y' H Q) : OkOp Γ X W fm op :=
  fun pins s σ' H x' y' v u Q μ x y S I rx ry vx vy m sat => h pins s σ' H x' y' v u Q I rx ry (hi H x' y' Q μ x y S _ vx vy m sat)
/-- several rules -/
theorem ok_or {fm : Value → Value → Sem Value} {op1 op2 : Op2} (c : D → D → Sto → Bool) (h1 : OkOp Γ X W fm op1) (h2 : OkOp Γ X W fm op2) : OkOp Γ X W fm (fun x y S => if c x y S = true then op1 x y S else op2 x y S) :=
  fun pins s σ' H x' y' v u Q μ x y S I rx ry vx vy m sat => by
    by_cases e : c x y S = true
    · simp only [e, if_true] at sat
      exact h1 pins s σ' H x' y' v u Q μ x y S I rx ry vx vy m sat
    · simp only [e] at sat
      exact h2 pins s σ' H x' y' v u Q μ x y S I rx ry vx vy m sat
/-! ### ints -/
def opI (g : Int → Int → Option D) : Op2 := fun x y S => match x, y with
  | .int i, .int j => match g i j with
    | some d => .ok d S
    | none => .no
  | _, _ => .no
theorem opI_at {g : Int → Int → Option D} {μ : Mp} {H : Hp} {x y : D} {x' y' : V} {S : Sto} {Q : VK} {n : Nat} (vx : VR Γ μ H x x') (vy : VR Γ μ H y y') (h : (opI g x y S).Sat (KD Γ μ H Q) (KE Γ W n μ H)) :
    ∃ i j d, x' = .int i ∧ y' = .int j ∧ g i j = some d ∧ KD Γ μ H Q d S := by
  unfold opI at h
  split at h
  · rename_i i j
    cases vx
    cases vy
    split at h
    · rename_i d e
      exact ⟨i, j, d, rfl, rfl, e, h⟩
    · exact h.elim
  · exact h.elim
theorem ok_opI {fm : Value → Value → Sem Value} {C : Int → Int → Prop} {g : Int → Int → V} {k : Int → Int → Option D} (h : OpR X fm (rI C g)) (hk : ∀ i j d, k i j = some d → C i j ∧ ∀ μ H, VR Γ μ H d (g i j)) : OkOp Γ X W fm (opI k) :=
  ok_of h fun H x' y' Q μ x y S n vx vy m sat => by
    obtain ⟨i, j, d, rfl, rfl, e, q⟩ := opI_at vx vy sat
    obtain ⟨c, r⟩ := hk i j d e
    exact ⟨i, j, rfl, rfl, c, KD.here q m (r _ _)⟩
theorem ok_opI0 {fm : Value → Value → Sem Value} {g : Int → Int → V} {k : Int → Int → Option D} (h : OpR X fm (rI0 g)) (hk : ∀ i j d, k i j = some d → ∀ μ H, VR Γ μ H d (g i j)) : OkOp Γ X W fm (opI k) :=
  ok_of h fun H x' y' Q μ x y S n vx vy m sat => by
    obtain ⟨i, j, d, rfl, rfl, e, q⟩ := opI_at vx vy sat
    exact ⟨i, j, rfl, rfl, KD.here q m (hk i j d e _ _)⟩
def opSub : Op2 := opI fun i j => some (.int (i - j))
theorem ok_sub : OkOp Γ X W (binaryOp .Sub) opSub := ok_opI0 op_sub fun i j d e => by cases e; exact fun _ _ => .int _
def opMod : Op2 := opI fun i j => if 0 < j then some (.int (i % j)) else none
theorem ok_mod : OkOp Γ X W (binaryOp .Mod) opMod := ok_opI op_mod fun i j d e => by
  split at e
  · rename_i h
    cases e
    exact ⟨h, fun _ _ => .int _⟩
  · cases e
def opFdiv : Op2 := opI fun i j => if 0 < j ∧ j.natAbs.log2 < 9000 then some (.int (i / j)) else none
theorem ok_fdiv : OkOp Γ X W (binaryOp .FloorDiv) opFdiv := ok_opI op_fdivW fun i j d e => by
  split at e
  · rename_i h
    cases e
    exact ⟨h, fun _ _ => .int _⟩
  · cases e
def opPow : Op2 := opI fun i j => if 0 ≤ j ∧ j ≤ 1000000 ∧ i.natAbs < 18446744073709551616 then some (.int (i ^ j.toNat)) else none
theorem ok_pow : OkOp Γ X W (binaryOp .Pow) opPow := ok_opI op_pow fun i j d e => by
  split at e
  · rename_i h
    cases e
    exact ⟨h, fun _ _ => .int _⟩
  · cases e
def small64 (i : Int) : Bool := decide (-18446744073709551616 < i) && decide (i < 18446744073709551616)
theorem small64_of {i : Int} (h : small64 i = true) : -(2 ^ 64) < i ∧ i < 2 ^ 64 := by
  unfold small64 at h
  simp only [Bool.and_eq_true, decide_eq_true_eq] at h
  omega
def opMulI : Op2 := opI fun i j => if small64 i || small64 j then some (.int (i * j)) else none
theorem ok_mulI : OkOp Γ X W (binaryOp .Mult) opMulI := ok_opI op_mul fun i j d e => by
  split at e
  · rename_i h
    cases e
    refine ⟨?_, fun _ _ => .int _⟩
    rw [Bool.or_eq_true] at h
    rcases h with h | h
    · exact .inl (small64_of h)
    · exact .inr (small64_of h)
  · cases e
def opMulWide : Op2 := opI fun i j => if i.natAbs.log2 + j.natAbs.log2 < 1000000 then some (.int (i * j)) else none
theorem ok_mulWide : OkOp Γ X W (binaryOp .Mult) opMulWide := ok_opI op_mulW fun i j d e => by
  split at e
  · rename_i h
    cases e
    exact ⟨h, fun _ _ => .int _⟩
  · cases e
def opLt : Op2 := opI fun i j => some (.bl (decide (i < j)))
def opLe : Op2 := opI fun i j => some (.bl (decide (i ≤ j)))
def opGt : Op2 := opI fun i j => some (.bl (decide (j < i)))
def opGe : Op2 := opI fun i j => some (.bl (decide (j ≤ i)))
theorem ok_lt : OkOp Γ X W (compareOp .Lt) opLt := ok_opI0 op_lt fun i j d e => by cases e; exact fun _ _ => .bl _
theorem ok_le : OkOp Γ X W (compareOp .LtE) opLe := ok_opI0 op_le fun i j d e => by cases e; exact fun _ _ => .bl _
theorem ok_gt : OkOp Γ X W (compareOp .Gt) opGt := ok_opI0 op_gt fun i j d e => by cases e; exact fun _ _ => .bl _
theorem ok_ge : OkOp Γ X W (compareOp .GtE) opGe := ok_opI0 op_ge fun i j d e => by cases e; exact fun _ _ => .bl _
def opNeg : Op1 := fun x S => match x with
  | .int i => .ok (.int (-i)) S
  | _ => .no
theorem ok_neg : OkUn Γ X W (unaryOp .USub) opNeg := fun pins s σ' H x' v Q μ x S I rx vx m sat => by
  refine un_neg pins s σ' H x' v Q I rx ?_
  unfold opNeg at sat
  split at sat
  · cases vx
    exact ⟨_, rfl, KD.here sat m (.int _)⟩
  · exact sat.elim
/-! ### + -/
def opAdd : Op2 := fun x y S => match x, y with
  | .int i, .int j => .ok (.int (i + j)) S
  | .str i, .str j => if i.length + j.length ≤ line then .ok (.str (i ++ j)) S else .no
  | .tup xs, .tup ys => if xs.length + ys.length ≤ line then .ok (.tup (xs ++ ys)) S else .no
  | x, y => match seqL x S, seqL y S with
    | some xs, some ys => if xs.length + ys.length ≤ line then .ok (.lst (xs ++ ys)) S else .no
    | _, _ => .no
theorem ok_add : OkOp Γ X W (binaryOp .Add) opAdd := by
  intro pins s σ' H x' y' v u Q μ x y S I rx ry vx vy m sat
  unfold opAdd at sat
  split at sat
  · cases vx
    cases vy
    exact op_add pins s σ' H _ _ v u Q I rx ry ⟨_, _, rfl, rfl, KD.here sat m (.int _)⟩
  · split at sat
    · rename_i z
      cases vx
      cases vy
      exact op_add_str pins s σ' H _ _ v u Q I rx ry ⟨_, _, rfl, rfl, line_le z, KD.here sat m (.str _)⟩
    · exact sat.elim
  · split at sat
    · rename_i xs ys z
      have vx0 := vx
      have vy0 := vy
      obtain ⟨a, vs, rfl, ha, ra⟩ := tup_at X.K vx
      obtain ⟨b, ws, rfl, hb, rb⟩ := tup_at X.K vy
      refine op_catA pins s σ' H _ _ v u Q I rx ry ⟨a, b, vs, ws, rfl, rfl, ha, hb, by rw [← ra.length, ← rb.length]; exact line_le z, fun e => ?_, fun _ e => ?_, fun _ _ p hp => KD.newT sat m (ra.append rb) hp⟩
      · subst e
        cases ra
        exact KD.here sat m vy0
      · subst e
        cases rb
        rw [List.append_nil] at sat
        exact KD.here sat m vx0
    · exact sat.elim
  · split at sat
    · rename_i xs ys ex ey
      split at sat
      · rename_i z
        obtain ⟨a, vs, rfl, ha, ra⟩ := seqL_at m vx ex
        obtain ⟨b, ws, rfl, hb, rb⟩ := seqL_at m vy ey
        exact op_cat pins s σ' H _ _ v u Q I rx ry ⟨a, b, vs, ws, rfl, rfl, ha, hb, by rw [← ra.length, ← rb.length]; exact line_le z, fun p hp => KD.newL sat m (ra.append rb) hp⟩
      · exact sat.elim
    · exact sat.elim
/-! ### xs * k -/
theorem VRs.rep {μ : Mp} {H : Hp} {xs : List D} {vs : List V} (r : VRs Γ μ H xs vs) : ∀ k : Nat, VRs Γ μ H (List.replicate k xs).flatten (List.replicate k vs).flatten
  | 0 => .nil
  | k + 1 => by
    rw [List.replicate_succ, List.replicate_succ, List.flatten_cons, List.flatten_cons]
    exact r.append (VRs.rep r k)
def opMul : Op2 := fun x y S => match x, y with
  | .int i, .int j => if small64 i || small64 j then .ok (.int (i * j)) S else if i.natAbs.log2 + j.natAbs.log2 < 1000000 then .ok (.int (i * j)) S else .no
  | .tup xs, .int k => if 2 ≤ k ∧ k ≤ 1000 ∧ xs.length ≤ 1000 ∧ xs.isEmpty = false then .ok (.tup (List.replicate k.toNat xs).flatten) S else .no
  | x, .int k => match seqL x S with
    | some xs => if -1000 ≤ k ∧ k ≤ 1000 ∧ xs.length ≤ 1000 then .ok (.lst (List.replicate k.toNat xs).flatten) S else .no
    | none => .no
  | _, _ => .no
theorem ok_mul : OkOp Γ X W (binaryOp .Mult) opMul := by
  intro pins s σ' H x' y' v u Q μ x y S I rx ry vx vy m sat
  unfold opMul at sat
  split at sat
  · cases vx
    cases vy
    split at sat
    · rename_i i j h
      refine op_mul pins s σ' H _ _ v u Q I rx ry ⟨_, _, rfl, rfl, ?_, KD.here sat m (.int _)⟩
      rw [Bool.or_eq_true] at h
      rcases h with h | h
      · exact .inl (small64_of h)
      · exact .inr (small64_of h)
    · split at sat
      · rename_i h
        exact op_mulW pins s σ' H _ _ v u Q I rx ry ⟨_, _, rfl, rfl, h, KD.here sat m (.int _)⟩
      · exact sat.elim
  · split at sat
    · rename_i xs k h
      obtain ⟨h1, h2, h3, h4⟩ := h
      obtain ⟨a, vs, rfl, ha, ra⟩ := tup_at X.K vx
      cases vy
      refine op_repT pins s σ' H _ _ v u Q I rx ry ⟨a, k, vs, rfl, rfl, ha, ?_, h1, h2, by rw [← ra.length]; exact h3, fun p hp => KD.newT sat m (ra.rep _) hp⟩
      rintro rfl
      cases ra
      cases h4
    · exact sat.elim
  · split at sat
    · rename_i xs ex
      split at sat
      · rename_i h
        obtain ⟨h1, h2, h3⟩ := h
        obtain ⟨a, vs, rfl, ha, ra⟩ := seqL_at m vx ex
        cases vy
        refine op_rep pins s σ' H _ _ v u Q I rx ry ⟨a, _, vs, rfl, rfl, ha, by omega, by omega, ?_, fun p hp => KD.newL sat m (ra.rep _) hp⟩
        rw [← ra.length]
        exact line_le (Nat.le_trans (Nat.mul_le_mul h3 (show Int.toNat _ ≤ 1000 by omega)) (by decide))
      · exact sat.elim
    · exact sat.elim
  · exact sat.elim
/-! ### == of plain data -/
def mapO {α β : Type} (f : α → Option β) : List α → Option (List β)
  | [] => some []
  | x :: r => match f x, mapO f r with
    | some a, some b => some (a :: b)
    | _, _ => none
def toPy (S : Sto) : Nat → D → Option PyData
  | 0, _ => none
  | k + 1, d => match d with
    | .non => some .none
    | .bl b => some (.bool b)
    | .int i => some (.int i)
    | .str s => if PyData.strOk s then some (.str s) else none
    | .tup xs => (mapO (toPy S k) xs).map .tuple
    | .lst xs => (mapO (toPy S k) xs).map .list
    | .scr xs => (mapO (toPy S k) xs).map .list
    | .loc n => match S[n]? with
      | some (.lst xs) => (mapO (toPy S k) xs).map .list
      | _ => none
    | _ => none
theorem mapO_shaped {f : D → Option PyData} {k : Nat} (hf : ∀ d p, f d = some p → p.canLay0 = true ∧ p.depth ≤ k) : ∀ xs ps, mapO f xs = some ps → PyData.canLayAll0 ps = true ∧ PyData.depthAll ps ≤ k
  | [], ps, h => by
    cases h
    exact ⟨rfl, Nat.zero_le _⟩
  | x :: r, ps, h => by
    unfold mapO at h
    split at h
    · rename_i a b ea eb
      cases h
      obtain ⟨h1, h2⟩ := hf _ _ ea
      obtain ⟨h3, h4⟩ := mapO_shaped hf r b eb
      refine ⟨by simp only [PyData.canLayAll0, h1, h3, Bool.and_self], ?_⟩
      simp only [PyData.depthAll]
      exact Nat.max_le.mpr ⟨h2, h4⟩
    · cases h
theorem toPy_shaped {S : Sto} : ∀ (k : Nat) (d : D) (p : PyData), toPy S k d = some p → p.canLay0 = true ∧ p.depth ≤ k
  | 0, _, _, h => by cases h
  | k + 1, d, p, h => by
    have ih := toPy_shaped (S := S) k
    have tp : ∀ xs, (mapO (toPy S k) xs).map PyData.tuple = some p → p.canLay0 = true ∧ p.depth ≤ k + 1 := fun xs h => by
      obtain ⟨ps, e, rfl⟩ := Option.map_eq_some_iff.mp h
      obtain ⟨h1, h2⟩ := mapO_shaped ih xs ps e
      exact ⟨by simp only [PyData.canLay0, h1], by simp only [PyData.depth]; omega⟩
    have ls : ∀ xs, (mapO (toPy S k) xs).map PyData.list = some p → p.canLay0 = true ∧ p.depth ≤ k + 1 := fun xs h => by
      obtain ⟨ps, e, rfl⟩ := Option.map_eq_some_iff.mp h
      obtain ⟨h1, h2⟩ := mapO_shaped ih xs ps e
      exact ⟨by simp only [PyData.canLay0, h1], by simp only [PyData.depth]; omega⟩
    unfold toPy at h
    split at h
    · cases h; exact ⟨rfl, Nat.zero_le _⟩
    · cases h; exact ⟨rfl, Nat.zero_le _⟩
    · cases h; exact ⟨rfl, Nat.zero_le _⟩
    · split at h
      · rename_i z
        cases h
        exact ⟨by simp only [PyData.canLay0, z], by simp [PyData.depth]⟩
      · cases h
    · exact tp _ h
    · exact ls _ h
    · exact ls _ h
    · split at h
      · exact ls _ h
      · cases h
    · cases h
theorem mapO_dp (K : PySem.W.Frag) {μ : Mp} {H : Hp} {f : D → Option PyData} (hf : ∀ d v p, VR Γ μ H d v → f d = some p → Dp K H v p) : ∀ xs vs ps, VRs Γ μ H xs vs → mapO f xs = some ps → DpAll K H vs ps
  | [], _, ps, .nil, h => by
    cases h
    exact .nil
  | x :: r, _, ps, .cons a b, h => by
    unfold mapO at h
    split at h
    · rename_i p q ea eb
      cases h
      exact .cons (hf _ _ _ a ea) (mapO_dp K hf _ _ _ b eb)
    · cases h
theorem toPy_dp (K : PySem.W.Frag) {μ : Mp} {H : Hp} {S : Sto} (m : MR Γ μ S H) : ∀ (k : Nat) (d : D) (v : V) (p : PyData), VR Γ μ H d v → toPy S k d = some p → Dp K H v p
  | 0, _, _, _, _, h => by cases h
  | k + 1, d, v, p, r, h => by
    have ih := toPy_dp K (S := S) m k
    unfold toPy at h
    split at h
    · cases h; cases r; exact .non
    · cases h; cases r; exact .bl _
    · cases h; cases r; exact .int _
    · split at h
      · cases h; cases r; exact .str _
      · cases h
    · obtain ⟨ps, e, rfl⟩ := Option.map_eq_some_iff.mp h
      obtain ⟨a, vs, rfl, ha, ra⟩ := tup_at K r
      exact .tup ha (mapO_dp K ih _ _ _ ra e)
    · obtain ⟨ps, e, rfl⟩ := Option.map_eq_some_iff.mp h
      obtain ⟨a, vs, rfl, ha, ra⟩ := seqA_at K m r rfl
      exact .lst ha (mapO_dp K ih _ _ _ ra e)
    · obtain ⟨ps, e, rfl⟩ := Option.map_eq_some_iff.mp h
      obtain ⟨a, vs, rfl, ha, ra⟩ := seqA_at K m r rfl
      exact .lst ha (mapO_dp K ih _ _ _ ra e)
    · split at h
      · rename_i n _ xs q
        obtain ⟨ps, e, rfl⟩ := Option.map_eq_some_iff.mp h
        obtain ⟨a, vs, rfl, ha, ra⟩ := seqA_at K m (xs := xs) r (by unfold seqA; simp only [q])
        exact .lst ha (mapO_dp K ih _ _ _ ra e)
      · cases h
    · cases h
def opEq : Op2 := fun x y S => match toPy S 9 x, toPy S 9 y with
  | some d, some e => .ok (.bl (PyData.eqv d e)) S
  | _, _ => .no
def opNe : Op2 := fun x y S => match toPy S 9 x, toPy S 9 y with
  | some d, some e => .ok (.bl (!PyData.eqv d e)) S
  | _, _ => .no
theorem shaped_toPy {S : Sto} {d : D} {p : PyData} (h : toPy S 9 d = some p) : SeqAt.shaped p = true := by
  obtain ⟨h1, h2⟩ := toPy_shaped 9 d p h
  show (p.canLay0 && decide (p.depth ≤ 64)) = true
  rw [h1, decide_eq_true (by omega)]
  rfl
theorem ok_eq (hu : X.A.units + 64 < cLine) : OkOp Γ X W (compareOp .Eq) opEq := ok_of (op_eqD hu) fun H x' y' Q μ x y S n vx vy m sat => by
  unfold opEq at sat
  split at sat
  · rename_i d e ed ee
    exact ⟨d, e, toPy_dp X.K m 9 x x' d vx ed, toPy_dp X.K m 9 y y' e vy ee, shaped_toPy ed, shaped_toPy ee, KD.here sat m (.bl _)⟩
  · exact sat.elim
theorem ok_ne (hu : X.A.units + 64 < cLine) : OkOp Γ X W (compareOp .NotEq) opNe := ok_of (op_neD hu) fun H x' y' Q μ x y S n vx vy m sat => by
  unfold opNe at sat
  split at sat
  · rename_i d e ed ee
    exact ⟨d, e, toPy_dp X.K m 9 x x' d vx ed, toPy_dp X.K m 9 y y' e vy ee, shaped_toPy ed, shaped_toPy ee, KD.here sat m (.bl _)⟩
  · exact sat.elim
/-! ### in -/
def flatD : D → Bool
  | .non => true
  | .bl _ => true
  | .int _ => true
  | .str _ => true
  | _ => false
def eqF : D → D → Bool
  | .non, .non => true
  | .bl a, .bl b => a == b
  | .bl a, .int b => (if a then 1 else 0) == b
  | .int a, .bl b => a == (if b then 1 else 0)
  | .int a, .int b => a == b
  | .str a, .str b => a == b
  | _, _ => false
theorem flat_at {μ : Mp} {H : Hp} {d : D} {v : V} (r : VR Γ μ H d v) (h : flatD d = true) : flatV v = true := by
  cases r <;> first | rfl | cases h
theorem eqF_at {μ : Mp} {H : Hp} {d e : D} {v w : V} (r : VR Γ μ H d v) (q : VR Γ μ H e w) (h : flatD d = true) (h2 : flatD e = true) : eqV v w = eqF d e := by
  cases r <;> cases q <;> first | rfl | (simp [flatD] at h; done) | (simp [flatD] at h2; done)
theorem all_flat {μ : Mp} {H : Hp} : ∀ {xs : List D} {vs : List V}, VRs Γ μ H xs vs → xs.all flatD = true → vs.all flatV = true
  | _, _, .nil, _ => rfl
  | x :: r, v :: s, .cons a b, h => by
    simp only [List.all_cons, Bool.and_eq_true] at h ⊢
    exact ⟨flat_at a h.1, all_flat b h.2⟩
theorem any_eqF {μ : Mp} {H : Hp} {d : D} {v : V} (r : VR Γ μ H d v) (hd : flatD d = true) : ∀ {xs : List D} {vs : List V}, VRs Γ μ H xs vs → xs.all flatD = true → (vs.any fun y => eqV y v) = xs.any fun y => eqF y d
  | _, _, .nil, _ => rfl
  | x :: _, w :: _, .cons a b, h => by
    simp only [List.all_cons, Bool.and_eq_true] at h
    simp only [List.any_cons, eqF_at a r h.1 hd, any_eqF r hd b h.2]
def inStr (i j : Str) : Bool := !(Builtin.Str.occurrences j i 0 j.length 1).isEmpty
def opIn : Op2 := fun x y S => match x, y with
  | .str i, .str j => .ok (.bl (inStr i j)) S
  | x, y => match seqOf y S with
    | some xs => if flatD x && xs.all flatD then .ok (.bl (xs.any fun z => eqF z x)) S else .no
    | none => .no
def opNotIn : Op2 := fun x y S => match x, y with
  | .str i, .str j => .ok (.bl (!inStr i j)) S
  | x, y => match seqOf y S with
    | some xs => if flatD x && xs.all flatD then .ok (.bl (!xs.any fun z => eqF z x)) S else .no
    | none => .no
theorem ok_in : OkOp Γ X W (compareOp .In) opIn := by
  intro pins s σ' H x' y' v u Q μ x y S I rx ry vx vy m sat
  unfold opIn at sat
  split at sat
  · cases vx
    cases vy
    exact op_in_str pins s σ' H _ _ v u Q I rx ry ⟨_, _, rfl, rfl, KD.here sat m (.bl _)⟩
  · split at sat
    · rename_i xs e
      split at sat
      · rename_i h
        rw [Bool.and_eq_true] at h
        obtain ⟨p, vs, rfl, hq, rs⟩ := seqOf_at X.K m vy e
        refine op_in_seq pins s σ' H _ _ v u Q I rx ry ⟨p, vs, rfl, hq.symm, flat_at vx h.1, all_flat rs h.2, ?_⟩
        show Q (.bl (vs.any fun y => eqV y x')) H
        rw [any_eqF vx h.1 rs h.2]
        exact KD.here sat m (.bl _)
      · exact sat.elim
    · exact sat.elim
theorem ok_notIn : OkOp Γ X W (compareOp .NotIn) opNotIn := by
  intro pins s σ' H x' y' v u Q μ x y S I rx ry vx vy m sat
  unfold opNotIn at sat
  split at sat
  · cases vx
    cases vy
    exact L2.op_notin_str pins s σ' H _ _ v u Q I rx ry ⟨_, _, rfl, rfl, KD.here sat m (.bl _)⟩
  · split at sat
    · rename_i xs e
      split at sat
      · rename_i h
        rw [Bool.and_eq_true] at h
        obtain ⟨p, vs, rfl, hq, rs⟩ := seqOf_at X.K m vy e
        refine op_notIn_seq pins s σ' H _ _ v u Q I rx ry ⟨p, vs, rfl, hq.symm, flat_at vx h.1, all_flat rs h.2, ?_⟩
        show Q (.bl (!vs.any fun y => eqV y x')) H
        rw [any_eqF vx h.1 rs h.2]
        exact KD.here sat m (.bl _)
      · exact sat.elim
    · exact sat.elim
/-! ### is -/
def isNone : D → Option Bool
  | .non => some true
  | .bl _ => some false
  | .int _ => some false
  | .str _ => some false
  | .ty _ => some false
  | .gl _ => some false
  | .loc _ => some false
  | .tup _ => some false
  | .lst _ => some false
  | .scr _ => some false
  | .dk _ => some false
  | .dt _ => some false
  | .obj _ _ => some false
theorem isNone_at {μ : Mp} {H : Hp} {d : D} {v : V} {b : Bool} (r : VR Γ μ H d v) (h : isNone d = some b) : decide (v = .non) = b := by
  cases r <;> (cases h; rfl)
def opIs : Op2 := fun x y S => match x, y with
  | .bl a, .bl b => .ok (.bl (decide (a = b))) S
  | x, .non => match isNone x with
    | some b => .ok (.bl b) S
    | none => .no
  | _, _ => .no
def opIsNot : Op2 := fun x y S => match x, y with
  | .bl a, .bl b => .ok (.bl (!decide (a = b))) S
  | x, .non => match isNone x with
    | some b => .ok (.bl (!b)) S
    | none => .no
  | _, _ => .no
theorem ok_is : OkOp Γ X W (compareOp .Is) opIs := by
  intro pins s σ' H x' y' v u Q μ x y S I rx ry vx vy m sat
  unfold opIs at sat
  split at sat
  · cases vx
    cases vy
    exact op_is_bl pins s σ' H _ _ v u Q I rx ry ⟨_, _, rfl, rfl, KD.here sat m (.bl _)⟩
  · split at sat
    · rename_i b e
      cases vy
      exact op_isN pins s σ' H _ _ v u Q I rx ry ⟨rfl, by rw [isNone_at vx e]; exact KD.here sat m (.bl _)⟩
    · exact sat.elim
  · exact sat.elim
theorem ok_isNot : OkOp Γ X W (compareOp .IsNot) opIsNot := by
  intro pins s σ' H x' y' v u Q μ x y S I rx ry vx vy m sat
  unfold opIsNot at sat
  split at sat
  · cases vx
    cases vy
    exact op_isnot_bl pins s σ' H _ _ v u Q I rx ry ⟨_, _, rfl, rfl, KD.here sat m (.bl _)⟩
  · split at sat
    · rename_i b e
      cases vy
      exact op_notN pins s σ' H _ _ v u Q I rx ry ⟨rfl, by rw [isNone_at vx e]; exact KD.here sat m (.bl _)⟩
    · exact sat.elim
  · exact sat.elim
end
end Ev
namespace Ev
open PySem PySem.Spec PyProof.Rows L2
section
variable {Γ : Nat → Addr} {W : WX} {X : Cx} {pos : Pos}
/-! ### two parts, then a rule -/
theorem bin_rd {k : Nat} {r : V → V → Hp → VK → Prop} {op : Op2} {f g : F1} {σ' : L2.St} {H : Hp} {Q : VK} (h : TEv Γ W k (eBin op f g) σ' H Q)
    (kk : ∀ (H2 : Hp) (x' y' : V) (μ : Mp) (x y : D) (S : Sto) (n : Nat), VR Γ μ H2 x x' → VR Γ μ H2 y y' → MR Γ μ S H2 → (op x y S).Sat (KD Γ μ H2 Q) (KE Γ W n μ H2) → r x' y' H2 Q) :
    TEv Γ W k f σ' H fun x H1 => TEv Γ W k g σ' H1 fun y H2 => r x y H2 Q := by
  obtain ⟨μ, σ, S, a, h⟩ := h
  refine tev_of a h.of_bind fun d S1 μ1 v1 H1 h1 s1 a1 r1 => ?_
  refine tev_of a1 (h1.of_bind.mono (fun _ _ x => x) fun _ _ => KE.mono s1) fun e S2 μ2 v2 H2 h2 s2 a2 r2 => ?_
  exact kk H2 v1 v2 μ2 d e S2 _ (r1.mono s2) r2 a2.mr (Sat.later (s1.trans s2) h2)
theorem un_rd {k : Nat} {r : V → Hp → VK → Prop} {op : Op1} {f : F1} {σ' : L2.St} {H : Hp} {Q : VK} (h : TEv Γ W k (eUn op f) σ' H Q)
    (kk : ∀ (H2 : Hp) (x' : V) (μ : Mp) (x : D) (S : Sto) (n : Nat), VR Γ μ H2 x x' → MR Γ μ S H2 → (op x S).Sat (KD Γ μ H2 Q) (KE Γ W n μ H2) → r x' H2 Q) :
    TEv Γ W k f σ' H fun x H1 => r x H1 Q := by
  obtain ⟨μ, σ, S, a, h⟩ := h
  refine tev_of a h.of_bind fun d S1 μ1 v1 H1 h1 s1 a1 r1 => ?_
  exact kk H1 v1 μ1 d S1 _ r1 a1.mr (Sat.later s1 h1)
abbrev OpC := List D → Sto → Res D
def eCall (op : OpC) (g : FA) : F1 := fun σ S => (g σ S).bind op
theorem call_rd {k : Nat} {r : List V → Hp → VK → Prop} {op : OpC} {g : FA} {σ' : L2.St} {H : Hp} {Q : VK} (h : TEv Γ W k (eCall op g) σ' H Q)
    (kk : ∀ (H2 : Hp) (vs : List V) (μ : Mp) (ds : List D) (S : Sto) (n : Nat), VRs Γ μ H2 ds vs → MR Γ μ S H2 → (op ds S).Sat (KD Γ μ H2 Q) (KE Γ W n μ H2) → r vs H2 Q) :
    TAv Γ W k g σ' H fun vs H1 => r vs H1 Q := by
  obtain ⟨μ, σ, S, a, h⟩ := h
  refine tav_of a h.of_bind fun d S1 μ1 v1 H1 h1 s1 a1 r1 => ?_
  exact kk H1 v1 μ1 d S1 _ r1 a1.mr (Sat.later s1 h1)
/-! ### subscripts -/
/-- a written item: the place that an index of any sign means -/
def opIx : Op2 := fun x y S => match x, y with
  | .str z, .int i => if z.length ≤ line then match atI z.cps.toList i with
      | some c => .ok (.str ⟨#[c]⟩) S
      | none => .no
    else .no
  | x, .int i => match seqOf x S with
    | some xs => match atI xs i with
      | some d => .ok d S
      | none => .no
    | none => .no
  | _, _ => .no
theorem VRs.atI {μ : Mp} {H : Hp} {xs : List D} {vs : List V} {i : Int} {d : D} (r : VRs Γ μ H xs vs) (h : atI xs i = some d) : ∃ v, L2.atI vs i = some v ∧ VR Γ μ H d v := by
  unfold L2.atI at h ⊢
  rw [← r.length]
  cases e : ixN xs.length i with
  | none => rw [e] at h; cases h
  | some j =>
    rw [e] at h
    exact r.get h
theorem s_ix {a b : Expr} {f g : F1} (ha : SE Γ X W a f) (hb : SE Γ X W b g) (hs : PlainIx b) : SE Γ X W (.Subscript a b pos) (eBin opIx f g) := by
  refine PE.imp (pe_ix ix_seq ha hb hs) fun σ' H Q h => bin_rd h fun H2 x' y' μ x y S n vx vy m sat => ?_
  unfold opIx at sat
  split at sat
  · split at sat
    · rename_i z
      split at sat
      · rename_i c e
        cases vx
        cases vy
        exact .inr (.inr ⟨_, _, c, rfl, rfl, line_le z, e, KD.here sat m (.str _)⟩)
      · exact sat.elim
    · exact sat.elim
  · split at sat
    · rename_i xs e
      split at sat
      · rename_i d e2
        obtain ⟨p, vs, rfl, hq, rs⟩ := seqOf_at X.K m vx e
        cases vy
        obtain ⟨v, ev, rv⟩ := rs.atI e2
        rcases hq with hq | hq
        · exact .inr (.inl ⟨p, vs, _, v, rfl, rfl, hq, ev, KD.here sat m rv⟩)
        · exact .inl ⟨p, vs, _, v, rfl, rfl, hq, ev, KD.here sat m rv⟩
      · exact sat.elim
    · exact sat.elim
  · exact sat.elim
/-! ### dicts -/
def keyD : Key → D
  | .inl i => .int i
  | .inr x => .str x
def keyOf : D → Option Key
  | .int i => some (.inl i)
  | .str x => some (.inr x)
  | _ => none
def keysOf : List D → Option (List Key)
  | [] => some []
  | d :: r => match keyOf d, keysOf r with
    | some a, some b => some (a :: b)
    | _, _ => none
theorem keyOf_at {μ : Mp} {H : Hp} {d : D} {v : V} {k : Key} (r : VR Γ μ H d v) (h : keyOf d = some k) : v = kV k := by
  unfold keyOf at h
  split at h
  · cases h; cases r; rfl
  · cases h; cases r; rfl
  · cases h
theorem keysOf_at {μ : Mp} {H : Hp} : ∀ {ds : List D} {vs : List V} {ks : List Key}, VRs Γ μ H ds vs → keysOf ds = some ks → vs = ks.map kV
  | [], _, _, .nil, h => by cases h; rfl
  | d :: r, _, _, .cons a b, h => by
    unfold keysOf at h
    split at h
    · rename_i k ks e1 e2
      cases h
      rw [List.map_cons, keyOf_at a e1, keysOf_at b e2]
    · cases h
theorem kV_at (k : Key) (μ : Mp) (H : Hp) : VR Γ μ H (keyD k) (kV k) := by
  cases k with
  | inl i => exact .int i
  | inr x => exact .str x
def valD {κ : Type} [DecidableEq κ] (kvs : List (κ × D)) (k : κ) : Option D := (kvs.find? fun kv => decide (kv.1 = k)).map (·.2)
theorem KRs.val {μ : Mp} {H : Hp} (k : Key) : ∀ {ds : List (Key × D)} {vs : List (Key × V)} {d : D}, KRs Γ μ H ds vs → valD ds k = some d → ∃ v, valV vs k = some v ∧ VR Γ μ H d v
  | [], _, _, .nil, h => by cases h
  | (j, x) :: r, _, d, .cons (v := y) a b, h => by
    by_cases e : j = k
    · have h1 : valD ((j, x) :: r) k = some x := by simp [valD, List.find?_cons, e]
      rw [h1] at h
      cases h
      exact ⟨y, valV_pos e, a⟩
    · have h1 : valD ((j, x) :: r) k = valD r k := by simp [valD, List.find?_cons, e]
      rw [h1] at h
      obtain ⟨v, e2, rv⟩ := KRs.val k b h
      exact ⟨v, by rw [valV_neg e]; exact e2, rv⟩
theorem KRs.val_none {μ : Mp} {H : Hp} (k : Key) : ∀ {ds : List (Key × D)} {vs : List (Key × V)}, KRs Γ μ H ds vs → valD ds k = none → valV vs k = none
  | [], _, .nil, h => rfl
  | (j, x) :: r, _, .cons (v := y) a b, h => by
    by_cases e : j = k
    · have h1 : valD ((j, x) :: r) k = some x := by simp [valD, List.find?_cons, e]
      rw [h1] at h
      cases h
    · have h1 : valD ((j, x) :: r) k = valD r k := by simp [valD, List.find?_cons, e]
      rw [h1] at h
      rw [valV_neg e]
      exact KRs.val_none k b h
theorem TRs.val {μ : Mp} {H : Hp} (k : List Key) : ∀ {ds : List (List Key × D)} {vs : List (List Key × V)} {d : D}, TRs Γ μ H ds vs → valD ds k = some d → ∃ v, valV vs k = some v ∧ VR Γ μ H d v
  | [], _, _, .nil, h => by cases h
  | (j, x) :: r, _, d, .cons (v := y) a b, h => by
    by_cases e : j = k
    · have h1 : valD ((j, x) :: r) k = some x := by simp [valD, List.find?_cons, e]
      rw [h1] at h
      cases h
      exact ⟨y, valV_pos e, a⟩
    · have h1 : valD ((j, x) :: r) k = valD r k := by simp [valD, List.find?_cons, e]
      rw [h1] at h
      obtain ⟨v, e2, rv⟩ := TRs.val k b h
      exact ⟨v, by rw [valV_neg e]; exact e2, rv⟩
theorem TRs.val_none {μ : Mp} {H : Hp} (k : List Key) : ∀ {ds : List (List Key × D)} {vs : List (List Key × V)}, TRs Γ μ H ds vs → valD ds k = none → valV vs k = none
  | [], _, .nil, h => rfl
  | (j, x) :: r, _, .cons (v := y) a b, h => by
    by_cases e : j = k
    · have h1 : valD ((j, x) :: r) k = some x := by simp [valD, List.find?_cons, e]
      rw [h1] at h
      cases h
    · have h1 : valD ((j, x) :: r) k = valD r k := by simp [valD, List.find?_cons, e]
      rw [h1] at h
      rw [valV_neg e]
      exact TRs.val_none k b h
/-- a dict's pairs: keys that are ints and texts -/
def dictK (d : D) (S : Sto) : Option (List (Key × D)) := match d with
  | .dk kvs => some kvs
  | .loc n => match S[n]? with
    | some (.dk kvs) => some kvs
    | _ => none
  | _ => none
def dictT (d : D) (S : Sto) : Option (List (List Key × D)) := match d with
  | .dt kvs => some kvs
  | .loc n => match S[n]? with
    | some (.dt kvs) => some kvs
    | _ => none
  | _ => none
theorem dictK_at {μ : Mp} {H : Hp} {S : Sto} (m : MR Γ μ S H) {d : D} {v : V} (r : VR Γ μ H d v) {xs : List (Key × D)} (h : dictK d S = some xs) : ∃ p vs, v = .ref p ∧ Rd H p (.dK vs) ∧ KRs Γ μ H xs vs := by
  unfold dictK at h
  split at h
  · cases h
    cases r with
    | dk n e rs => exact ⟨_, _, rfl, e, rs⟩
  · split at h
    · rename_i e
      cases h
      obtain ⟨p, ev, hp, o⟩ := cell_at m r e
      cases o with
      | dk e rs => exact ⟨p, _, ev, .inl e, rs⟩
    · cases h
  · cases h
theorem dictT_at {μ : Mp} {H : Hp} {S : Sto} (m : MR Γ μ S H) {d : D} {v : V} (r : VR Γ μ H d v) {xs : List (List Key × D)} (h : dictT d S = some xs) : ∃ p vs, v = .ref p ∧ Rd H p (.dT vs) ∧ TRs Γ μ H xs vs := by
  unfold dictT at h
  split at h
  · cases h
    cases r with
    | dt n e rs => exact ⟨_, _, rfl, e, rs⟩
  · split at h
    · rename_i e
      cases h
      obtain ⟨p, ev, hp, o⟩ := cell_at m r e
      cases o with
      | dt e rs => exact ⟨p, _, ev, .inl e, rs⟩
    · cases h
  · cases h
/-- what stands at a key: none is «not there» -/
def dGet (x y : D) (S : Sto) : Option (Option D) := match dictK x S with
  | some kvs => match keyOf y with
    | some k => some (valD kvs k)
    | none => none
  | none => match dictT x S, y with
    | some kvs, .tup ys => match keysOf ys with
      | some k => some (valD kvs k)
      | none => none
    | _, _ => none
theorem dGet_at {μ : Mp} {H : Hp} {S : Sto} (m : MR Γ μ S H) {x y : D} {x' y' : V} (vx : VR Γ μ H x x') (vy : VR Γ μ H y y') {o : Option D} (h : dGet x y S = some o) :
    ∃ p r, x' = .ref p ∧ (match o with | some d => ∃ v, r = some v ∧ VR Γ μ H d v | none => r = none) ∧ DGet H p y' r := by
  unfold dGet at h
  split at h
  · rename_i kvs e
    split at h
    · rename_i k e2
      cases h
      obtain ⟨p, vs, rfl, hp, rs⟩ := dictK_at m vx e
      have ey := keyOf_at vy e2
      cases q : valD kvs k with
      | some d =>
        obtain ⟨v, ev, rv⟩ := KRs.val k rs q
        exact ⟨p, some v, rfl, ⟨v, rfl, rv⟩, .inl ⟨vs, k, hp, ey, ev.symm⟩⟩
      | none => exact ⟨p, none, rfl, rfl, .inl ⟨vs, k, hp, ey, (KRs.val_none k rs q).symm⟩⟩
    · cases h
  · split at h
    · rename_i kvs ys e
      split at h
      · rename_i k e2
        cases h
        obtain ⟨p, vs, rfl, hp, rs⟩ := dictT_at m vx e
        cases vy with
        | tup n hb rt =>
          have ey := keysOf_at rt e2
          subst ey
          cases q : valD kvs k with
          | some d =>
            obtain ⟨v, ev, rv⟩ := TRs.val k rs q
            exact ⟨p, some v, rfl, ⟨v, rfl, rv⟩, .inr ⟨vs, k, _, hp, rfl, hb, ev.symm⟩⟩
          | none => exact ⟨p, none, rfl, rfl, .inr ⟨vs, k, _, hp, rfl, hb, (TRs.val_none k rs q).symm⟩⟩
      · cases h
    · cases h
/-- d[k], there -/
def opDGet : Op2 := fun x y S => match dGet x y S with
  | some (some d) => .ok d S
  | _ => .no
theorem s_dget {a b : Expr} {f g : F1} (hu : X.A.units + 1 < cLine) (ha : SE Γ X W a f) (hb : SE Γ X W b g) (hs : NoSl b) : SE Γ X W (.Subscript a b pos) (eBin opDGet f g) := by
  refine PE.imp (pe_dget hu ha hb hs) fun σ' H Q h => bin_rd (r := fun x y H2 Q => ∃ a v, x = .ref a ∧ DGet H2 a y (some v) ∧ Q v H2) h fun H2 x' y' μ x y S n vx vy m sat => ?_
  unfold opDGet at sat
  split at sat
  · rename_i d e
    obtain ⟨p, r, rfl, hr, g⟩ := dGet_at m vx vy e
    obtain ⟨v, rfl, rv⟩ := hr
    exact ⟨p, v, rfl, g, KD.here sat m rv⟩
  · exact sat.elim
/-- k in d, k not in d -/
def opDIn : Op2 := fun x y S => match dGet y x S with
  | some o => .ok (.bl o.isSome) S
  | _ => .no
def opDNotIn : Op2 := fun x y S => match dGet y x S with
  | some o => .ok (.bl (!o.isSome)) S
  | _ => .no
theorem din_rd {b : Bool → Bool} {op : Op2} (hop : ∀ x y S, op x y S = match dGet y x S with | some o => .ok (.bl (b o.isSome)) S | _ => .no) {H2 : Hp} {x' y' : V} {Q : VK} {μ : Mp} {x y : D} {S : Sto} {n : Nat} (vx : VR Γ μ H2 x x') (vy : VR Γ μ H2 y y') (m : MR Γ μ S H2)
    (sat : (op x y S).Sat (KD Γ μ H2 Q) (KE Γ W n μ H2)) : ∃ a o, y' = .ref a ∧ DGet H2 a x' o ∧ Q (.bl (b o.isSome)) H2 := by
  rw [hop] at sat
  split at sat
  · rename_i o e
    obtain ⟨p, r, rfl, hr, g⟩ := dGet_at m vy vx e
    refine ⟨p, r, rfl, g, ?_⟩
    cases o with
    | some d =>
      obtain ⟨v, rfl, rv⟩ := hr
      exact KD.here sat m (.bl _)
    | none =>
      have hr : r = none := hr
      subst hr
      exact KD.here sat m (.bl _)
  · exact sat.elim
theorem s_din {a b : Expr} {f g : F1} (hu : X.A.units + 1 < cLine) (ha : SE Γ X W a f) (hb : SE Γ X W b g) (hm : behindInMarks .In b = false := by rfl) : SE Γ X W (.Compare a [.In] [b] pos) (eBin opDIn f g) :=
  PE.imp (pe_cmp (pc_din hu ha hb) hm) fun σ' H Q h => bin_rd (r := fun x y H2 Q => ∃ a o, y = .ref a ∧ DGet H2 a x o ∧ Q (.bl o.isSome) H2) h fun H2 x' y' μ x y S n vx vy m sat => din_rd (b := id) (fun _ _ _ => rfl) vx vy m sat
theorem s_dnotin {a b : Expr} {f g : F1} (hu : X.A.units + 1 < cLine) (ha : SE Γ X W a f) (hb : SE Γ X W b g) (hm : behindInMarks .NotIn b = false := by rfl) : SE Γ X W (.Compare a [.NotIn] [b] pos) (eBin opDNotIn f g) :=
  PE.imp (pe_cmp (pc_dnotin hu ha hb) hm) fun σ' H Q h => bin_rd (r := fun x y H2 Q => ∃ a o, y = .ref a ∧ DGet H2 a x o ∧ Q (.bl (!o.isSome)) H2) h fun H2 x' y' μ x y S n vx vy m sat => din_rd (b := Bool.not) (fun _ _ _ => rfl) vx vy m sat
end
end Ev
namespace Ev
open PySem PySem.Spec PyProof.Rows L2
/-! ### truth -/
def tru (d : D) (S : Sto) : Option Bool := match d with
  | .non => some false
  | .bl b => some b
  | .int i => some (i != 0)
  | .str s => if s.length ≤ line then some ((s.length : Int) != 0) else none
  | d => match seqOf d S with
    | some xs => some (!xs.isEmpty)
    | none => match d with
      | .loc n => match S[n]? with
        | some (.dk kvs) => some (!kvs.isEmpty)
        | _ => none
      | _ => none
def eB (f : F1) : FT := fun σ S => (f σ S).bind asB
def eTru (f : F1) : FT := fun σ S => (f σ S).bind fun d S1 => match tru d S1 with
  | some b => .ok b S1
  | none => .no
def ofB (f : FT) : F1 := fun σ S => (f σ S).bind fun b S1 => .ok (.bl b) S1
def eAnd (f g : F1) : F1 := fun σ S => (f σ S).bind fun d S1 => match tru d S1 with
  | some true => g σ S1
  | some false => .ok d S1
  | none => .no
def eOr (f g : F1) : F1 := fun σ S => (f σ S).bind fun d S1 => match tru d S1 with
  | some true => .ok d S1
  | some false => g σ S1
  | none => .no
def eNot (f : F1) : F1 := fun σ S => (f σ S).bind fun d S1 => match tru d S1 with
  | some b => .ok (.bl (!b)) S1
  | none => .no
def eIf (t : FT) (f g : F1) : F1 := fun σ S => (t σ S).bind fun b S1 => if b = true then f σ S1 else g σ S1
def tAnd (t u : FT) : FT := fun σ S => (t σ S).bind fun b S1 => if b = true then u σ S1 else .ok false S1
def tOr (t u : FT) : FT := fun σ S => (t σ S).bind fun b S1 => if b = true then .ok true S1 else u σ S1
def tNot (t : FT) : FT := fun σ S => (t σ S).bind fun b S1 => .ok (!b) S1
section
variable {Γ : Nat → Addr} {W : WX} {X : Cx} {pos : Pos} {a b c : Expr} {rest : List Expr} {f g h : F1} {t u : FT}
theorem isEmpty_VRs {μ : Mp} {H : Hp} {xs : List D} {vs : List V} (r : VRs Γ μ H xs vs) : xs.isEmpty = vs.isEmpty := by
  cases r <;> rfl
theorem isEmpty_KRs {μ : Mp} {H : Hp} {xs : List (Key × D)} {vs : List (Key × V)} (r : KRs Γ μ H xs vs) : xs.isEmpty = vs.isEmpty := by
  cases r <;> rfl
theorem tru_at (K : PySem.W.Frag) {μ : Mp} {H : Hp} {S : Sto} (m : MR Γ μ S H) {d : D} {v : V} (r : VR Γ μ H d v) {k : Bool} (h : tru d S = some k) : TruV K v H k := by
  unfold tru at h
  split at h
  · cases h; cases r; rfl
  · cases h; cases r; rfl
  · cases h; cases r; rfl
  · split at h
    · rename_i z
      cases h; cases r
      exact ⟨line_le z, rfl⟩
    · cases h
  · split at h
    · rename_i xs e
      cases h
      obtain ⟨p, vs, rfl, hq, rs⟩ := seqOf_at K m r e
      rw [isEmpty_VRs rs]
      rcases hq with hq | hq
      · exact .inr (.inl ⟨vs, hq, rfl⟩)
      · exact .inl ⟨vs, hq, rfl⟩
    · split at h
      · split at h
        · rename_i e
          cases h
          obtain ⟨p, rfl, hp, o⟩ := cell_at m r e
          cases o with
          | dk e rs =>
            rw [isEmpty_KRs rs]
            exact .inr (.inr ⟨_, e, rfl⟩)
        · cases h
      · cases h
/-- the reading behind a truth -/
theorem tru_rd {μ : Mp} {H : Hp} {d : D} {S : Sto} {R : Bool → Res D} {Q : VK} {n : Nat} (h : (match tru d S with | some k => R k | none => .no).Sat (KD Γ μ H Q) (KE Γ W n μ H)) : ∃ k, tru d S = some k ∧ (R k).Sat (KD Γ μ H Q) (KE Γ W n μ H) := by
  cases e : tru d S with
  | none => rw [e] at h; exact h.elim
  | some k => rw [e] at h; exact ⟨k, rfl, h⟩
theorem s_one {op} (ha : SE Γ X W a f) : SE Γ X W (.BoolOp op [a] pos) f := pe_one ha
theorem s_and (ha : SE Γ X W a f) (hb : SE Γ X W (.BoolOp .And (b :: rest) pos) g) : SE Γ X W (.BoolOp .And (a :: b :: rest) pos) (eAnd f g) := by
  refine PE.imp (pe_andT ha hb) fun σ' H Q h => ?_
  obtain ⟨μ, σ, S, at0, h⟩ := h
  refine tev_of at0 h.of_bind fun d S1 μ1 v1 H1 h1 s1 a1 r1 => ?_
  have h2 : ∃ k, tru d S1 = some k ∧ (if k = true then g σ S1 else .ok d S1).Sat (KD Γ μ H Q) (KE Γ W X.N.length μ H) := by
    cases e : tru d S1 with
    | none => rw [e] at h1; exact h1.elim
    | some k =>
      rw [e] at h1
      refine ⟨k, rfl, ?_⟩
      cases k <;> exact h1
  obtain ⟨k, e, h2⟩ := h2
  refine ⟨k, tru_at X.K a1.mr r1 e, ?_⟩
  cases k with
  | true => exact ⟨μ1, σ, S1, a1, Sat.later s1 h2⟩
  | false => exact KD.here (KD.mono s1 h2) a1.mr r1
theorem s_or (ha : SE Γ X W a f) (hb : SE Γ X W (.BoolOp .Or (b :: rest) pos) g) : SE Γ X W (.BoolOp .Or (a :: b :: rest) pos) (eOr f g) := by
  refine PE.imp (pe_orT ha hb) fun σ' H Q h => ?_
  obtain ⟨μ, σ, S, at0, h⟩ := h
  refine tev_of at0 h.of_bind fun d S1 μ1 v1 H1 h1 s1 a1 r1 => ?_
  have h2 : ∃ k, tru d S1 = some k ∧ (if k = true then .ok d S1 else g σ S1).Sat (KD Γ μ H Q) (KE Γ W X.N.length μ H) := by
    cases e : tru d S1 with
    | none => rw [e] at h1; exact h1.elim
    | some k =>
      rw [e] at h1
      refine ⟨k, rfl, ?_⟩
      cases k <;> exact h1
  obtain ⟨k, e, h2⟩ := h2
  refine ⟨k, tru_at X.K a1.mr r1 e, ?_⟩
  cases k with
  | true => exact KD.here (KD.mono s1 h2) a1.mr r1
  | false => exact ⟨μ1, σ, S1, a1, Sat.later s1 h2⟩
theorem s_not (ha : SE Γ X W a f) : SE Γ X W (.UnaryOp .Not a pos) (eNot f) := by
  refine PE.imp (pe_notT ha) fun σ' H Q h => ?_
  obtain ⟨μ, σ, S, at0, h⟩ := h
  refine tev_of at0 h.of_bind fun d S1 μ1 v1 H1 h1 s1 a1 r1 => ?_
  cases e : tru d S1 with
  | none => rw [e] at h1; exact h1.elim
  | some k =>
    rw [e] at h1
    exact ⟨k, tru_at X.K a1.mr r1 e, KD.here (KD.mono s1 h1) a1.mr (.bl _)⟩
theorem s_ifExp (hc : ST Γ X W c t) (ha : SE Γ X W a f) (hb : SE Γ X W b g) : SE Γ X W (.IfExp c a b pos) (eIf t f g) := by
  refine PE.imp (pe_ifExp hc ha hb) fun σ' H Q h => ?_
  obtain ⟨μ, σ, S, at0, h⟩ := h
  refine ttv_of at0 h.of_bind fun k S1 μ1 H1 h1 s1 a1 => ?_
  cases k with
  | true => exact ⟨μ1, σ, S1, a1, Sat.later s1 h1⟩
  | false => exact ⟨μ1, σ, S1, a1, Sat.later s1 h1⟩
/-! ### tests -/
theorem t_truth (ha : SE Γ X W a f) (he : ∀ whole, isTrue a X.env whole = (do let v ← whole; standAt a.pos; holding [v] (truthy v)) := by intro _; rfl) : ST Γ X W a (eTru f) := by
  refine PT.imp (pt_truth ha he) fun σ' H Q h => ?_
  obtain ⟨μ, σ, S, at0, h⟩ := h
  refine tev_of at0 h.of_bind fun d S1 μ1 v1 H1 h1 s1 a1 r1 => ?_
  cases e : tru d S1 with
  | none => rw [e] at h1; exact h1.elim
  | some k =>
    rw [e] at h1
    exact ⟨k, tru_at X.K a1.mr r1 e, h1 μ1 H1 s1 a1.mr⟩
/-- a value that is a bool -/
theorem t_val (ha : SE Γ X W a f) (he : ∀ whole, isTrue a X.env whole = (do let v ← whole; standAt a.pos; holding [v] (truthy v)) := by intro _; rfl) : ST Γ X W a (eB f) := by
  refine PT.imp (pt_val ha he) fun σ' H Q h => ?_
  obtain ⟨μ, σ, S, at0, h⟩ := h
  exact ⟨μ, σ, S, at0, asT h⟩
theorem t_din {hu : X.A.units + 1 < cLine} (ha : SE Γ X W a f) (hb : SE Γ X W b g) (hm : behindInMarks .In b = false := by rfl) : ST Γ X W (.Compare a [.In] [b] pos) (eB (eBin opDIn f g)) := by
  refine PT.imp (pt_cmp (pc_din hu ha hb) hm) fun σ' H Q h => ?_
  obtain ⟨μ, σ, S, at0, h⟩ := h
  exact bin_rd (r := fun x y H2 Q => ∃ a o, y = .ref a ∧ DGet H2 a x o ∧ Q (.bl o.isSome) H2) ⟨μ, σ, S, at0, asT h⟩ fun H2 x' y' μ x y S n vx vy m sat => din_rd (b := id) (fun _ _ _ => rfl) vx vy m sat
theorem t_dnotin {hu : X.A.units + 1 < cLine} (ha : SE Γ X W a f) (hb : SE Γ X W b g) (hm : behindInMarks .NotIn b = false := by rfl) : ST Γ X W (.Compare a [.NotIn] [b] pos) (eB (eBin opDNotIn f g)) := by
  refine PT.imp (pt_cmp (pc_dnotin hu ha hb) hm) fun σ' H Q h => ?_
  obtain ⟨μ, σ, S, at0, h⟩ := h
  exact bin_rd (r := fun x y H2 Q => ∃ a o, y = .ref a ∧ DGet H2 a x o ∧ Q (.bl (!o.isSome)) H2) ⟨μ, σ, S, at0, asT h⟩ fun H2 x' y' μ x y S n vx vy m sat => din_rd (b := Bool.not) (fun _ _ _ => rfl) vx vy m sat
theorem w_and1 (ha : ST Γ X W a t) : SW Γ X W (.BoolOp .And [a] pos) t := pw_and1 ha
theorem w_or1 (ha : ST Γ X W a t) : SW Γ X W (.BoolOp .Or [a] pos) t := pw_or1 ha
theorem w_and (ha : ST Γ X W a t) (hb : SW Γ X W (.BoolOp .And (b :: rest) pos) u) : SW Γ X W (.BoolOp .And (a :: b :: rest) pos) (tAnd t u) := by
  refine PW.imp (pw_and ha hb) fun σ' H Q h => ?_
  obtain ⟨μ, σ, S, at0, h⟩ := h
  refine ttv_of at0 h.of_bind fun k S1 μ1 H1 h1 s1 a1 => ?_
  cases k with
  | true => exact ⟨μ1, σ, S1, a1, Sat.laterB s1 h1⟩
  | false => exact KB.mono s1 h1 μ1 H1 Step.refl a1.mr
theorem w_or (ha : ST Γ X W a t) (hb : SW Γ X W (.BoolOp .Or (b :: rest) pos) u) : SW Γ X W (.BoolOp .Or (a :: b :: rest) pos) (tOr t u) := by
  refine PW.imp (pw_or ha hb) fun σ' H Q h => ?_
  obtain ⟨μ, σ, S, at0, h⟩ := h
  refine ttv_of at0 h.of_bind fun k S1 μ1 H1 h1 s1 a1 => ?_
  cases k with
  | true => exact KB.mono s1 h1 μ1 H1 Step.refl a1.mr
  | false => exact ⟨μ1, σ, S1, a1, Sat.laterB s1 h1⟩
theorem t_bool (h : SW Γ X W a t) : ST Γ X W a t := PW.pt h
theorem t_not (ha : ST Γ X W a t) : ST Γ X W (.UnaryOp .Not a pos) (tNot t) := by
  refine PT.imp (pt_not ha) fun σ' H Q h => ?_
  obtain ⟨μ, σ, S, at0, h⟩ := h
  refine ttv_of at0 h.of_bind fun k S1 μ1 H1 h1 s1 a1 => ?_
  exact KB.mono s1 h1 μ1 H1 Step.refl a1.mr
end
end Ev
namespace Ev
open PySem PySem.Spec PyProof.Rows L2
/-- a rule of the layer asks no more than the operation says -/
def RdC (Γ : Nat → Addr) (W : WX) (r : List V → Hp → VK → Prop) (op : OpC) : Prop :=
  ∀ (H2 : Hp) (Q : VK) (vs : List V) (μ : Mp) (ds : List D) (S : Sto) (n : Nat), VRs Γ μ H2 ds vs → MR Γ μ S H2 → (op ds S).Sat (KD Γ μ H2 Q) (KE Γ W n μ H2) → r vs H2 Q
section
variable {Γ : Nat → Addr} {W : WX} {X : Cx} {pos p : Pos} {x : Str} {e : Expr} {es : List Expr} {g : FA} {op : OpC} {r : List V → Hp → VK → Prop}
theorem s_callB {id : String} (hc : CallR X (.builtin id) r) (hk : RdC Γ W r op) (hg : Gl X x) (hm : X.mg x = none) (hv : bootBuiltins x = some (.builtin id)) (ha : SA Γ X W (e :: es) g) (hn : x ≠ "__name__" := by decide) (hdb : (x == ("__debug__" : Str)) = false := by decide)
    (he : starEach (e :: es) X.env = (false, eval e X.env) :: starEach es X.env := by rfl) (hpl : (backTo pos (starEach es X.env)).any (·.1) = false := by rfl) : SE Γ X W (.Call (.Name x p) (e :: es) [] pos) (eCall op g) :=
  PE.imp (pe_callB hc hg hm hv ha hn hdb he hpl) fun σ' H Q h => call_rd (r := r) h fun H2 vs μ ds S n rv m sat => hk H2 Q vs μ ds S n rv m sat
theorem s_callTy {T : String} (hc : CallR X (.type T) r) (hk : RdC Γ W r op) (hg : Gl X x) (hm : X.mg x = none) (hv : bootBuiltins x = some (.type T)) (ha : SA Γ X W (e :: es) g) (hn : x ≠ "__name__" := by decide) (hdb : (x == ("__debug__" : Str)) = false := by decide)
    (he : starEach (e :: es) X.env = (false, eval e X.env) :: starEach es X.env := by rfl) (hpl : (backTo pos (starEach es X.env)).any (·.1) = false := by rfl) : SE Γ X W (.Call (.Name x p) (e :: es) [] pos) (eCall op g) :=
  PE.imp (pe_callTy hc hg hm hv ha hn hdb he hpl) fun σ' H Q h => call_rd (r := r) h fun H2 vs μ ds S n rv m sat => hk H2 Q vs μ ds S n rv m sat
theorem CallR.or {f : Value} {r r' : List V → Hp → VK → Prop} (h : CallR X f r) (h' : CallR X f r') : CallR X f (fun xs H Q => r xs H Q ∨ r' xs H Q) := fun pins s σ H xs us Q I rv q => by
  rcases q with q | q
  · exact h pins s σ H xs us Q I rv q
  · exact h' pins s σ H xs us Q I rv q
theorem VRs.one {μ : Mp} {H : Hp} {d : D} {vs : List V} (r : VRs Γ μ H [d] vs) : ∃ v, vs = [v] ∧ VR Γ μ H d v := by
  cases r with
  | cons a b => cases b; exact ⟨_, rfl, a⟩
theorem VRs.two {μ : Mp} {H : Hp} {d e : D} {vs : List V} (r : VRs Γ μ H [d, e] vs) : ∃ v w, vs = [v, w] ∧ VR Γ μ H d v ∧ VR Γ μ H e w := by
  cases r with
  | cons a b =>
    obtain ⟨w, rfl, c⟩ := b.one
    exact ⟨_, _, rfl, a, c⟩
/-! ### len -/
def opLen : OpC := fun ds S => match ds with
  | [.str z] => if z.length ≤ line then .ok (.int z.length) S else .no
  | [d] => match seqOf d S with
    | some xs => .ok (.int xs.length) S
    | none => match d with
      | .loc n => match S[n]? with
        | some (.dk kvs) => .ok (.int kvs.length) S
        | _ => .no
      | _ => .no
  | _ => .no
/-- len of a dict that is data -/
def rLen (K : PySem.W.Frag) : List V → Hp → VK → Prop := fun xs H Q => (∃ z : Str, xs = [.str z] ∧ z.length ≤ sizeLine ∧ Q (.int z.length) H) ∨ (∃ p ys, xs = [.ref p] ∧ (SqL K H p ys ∨ SqT K H p ys) ∧ Q (.int (ys.length : Nat)) H) ∨ ∃ a kvs, xs = [V.ref a] ∧ H a = some (.dK kvs) ∧ Q (.int (kvs.length : Nat)) H
theorem call_len3 : CallR X (.builtin "len") (rLen X.K) := CallR.or call_len_str (CallR.or call_len_seq call_lenD)
theorem rd_len : RdC Γ W (rLen X.K) opLen := by
  intro H Q vs μ ds S n rv m sat
  unfold opLen at sat
  split at sat
  · split at sat
    · rename_i z
      obtain ⟨v, rfl, r⟩ := rv.one
      cases r
      exact .inl ⟨_, rfl, line_le z, KD.here sat m (.int _)⟩
    · exact sat.elim
  · obtain ⟨v, rfl, r⟩ := rv.one
    split at sat
    · rename_i xs e
      obtain ⟨p, vs, rfl, hq, rs⟩ := seqOf_at X.K m r e
      exact .inr (.inl ⟨p, vs, rfl, hq.symm, by rw [← rs.length]; exact KD.here sat m (.int _)⟩)
    · split at sat
      · split at sat
        · rename_i e
          obtain ⟨p, rfl, hp, o⟩ := cell_at m r e
          cases o with
          | dk e rs => exact .inr (.inr ⟨p, _, rfl, e, by rw [← rs.length]; exact KD.here sat m (.int _)⟩)
        · exact sat.elim
      · exact sat.elim
  · exact sat.elim
/-! ### ints -/
def opAbs : OpC := fun ds S => match ds with
  | [.int i] => .ok (.int (if i < 0 then -i else i)) S
  | _ => .no
theorem rd_abs : RdC Γ W (fun xs H Q => ∃ i, xs = [.int i] ∧ Q (.int (if i < 0 then -i else i)) H) opAbs := by
  intro H Q vs μ ds S n rv m sat
  unfold opAbs at sat
  split at sat
  · obtain ⟨v, rfl, r⟩ := rv.one
    cases r
    exact ⟨_, rfl, KD.here sat m (.int _)⟩
  · exact sat.elim
def opMax : OpC := fun ds S => match ds with
  | [.int i, .int j] => .ok (.int (if j > i then j else i)) S
  | _ => .no
theorem rd_max : RdC Γ W (fun xs H Q => ∃ i j, xs = [.int i, .int j] ∧ Q (.int (if j > i then j else i)) H) opMax := by
  intro H Q vs μ ds S n rv m sat
  unfold opMax at sat
  split at sat
  · obtain ⟨v, w, rfl, r, r2⟩ := rv.two
    cases r
    cases r2
    exact ⟨_, _, rfl, KD.here sat m (.int _)⟩
  · exact sat.elim
def opMin : OpC := fun ds S => match ds with
  | [.int i, .int j] => .ok (.int (if j < i then j else i)) S
  | _ => .no
theorem rd_min : RdC Γ W (fun xs H Q => ∃ i j, xs = [.int i, .int j] ∧ Q (.int (if j < i then j else i)) H) opMin := by
  intro H Q vs μ ds S n rv m sat
  unfold opMin at sat
  split at sat
  · obtain ⟨v, w, rfl, r, r2⟩ := rv.two
    cases r
    cases r2
    exact ⟨_, _, rfl, KD.here sat m (.int _)⟩
  · exact sat.elim
def opStr : OpC := fun ds S => match ds with
  | [.int i] => if i.natAbs.log2 < 1920 then .ok (.str (toString i)) S else .no
  | _ => .no
theorem rd_str : RdC Γ W (fun xs H Q => ∃ i : Int, xs = [.int i] ∧ i.natAbs.log2 < 1920 ∧ Q (.str (toString i)) H) opStr := by
  intro H Q vs μ ds S n rv m sat
  unfold opStr at sat
  split at sat
  · split at sat
    · rename_i z
      obtain ⟨v, rfl, r⟩ := rv.one
      cases r
      exact ⟨_, rfl, z, KD.here sat m (.str _)⟩
    · exact sat.elim
  · exact sat.elim
def opBool : OpC := fun ds S => match ds with
  | [.int i] => .ok (.bl (i != 0)) S
  | [.bl b] => .ok (.bl b) S
  | _ => .no
theorem rd_bool : RdC Γ W (fun xs H Q => (∃ i : Int, xs = [.int i] ∧ Q (.bl (i != 0)) H) ∨ ∃ k, xs = [.bl k] ∧ Q (.bl k) H) opBool := by
  intro H Q vs μ ds S n rv m sat
  unfold opBool at sat
  split at sat
  · obtain ⟨v, rfl, r⟩ := rv.one
    cases r
    exact .inl ⟨_, rfl, KD.here sat m (.bl _)⟩
  · obtain ⟨v, rfl, r⟩ := rv.one
    cases r
    exact .inr ⟨_, rfl, KD.here sat m (.bl _)⟩
  · exact sat.elim
/-! ### lists of ints, of bools -/
def asInt : D → Option Int
  | .int i => some i
  | _ => none
def asBl : D → Option Bool
  | .bl i => some i
  | _ => none
theorem ints_at {μ : Mp} {H : Hp} : ∀ {xs : List D} {vs : List V} {ns : List Int}, VRs Γ μ H xs vs → mapO asInt xs = some ns → vs = ns.map V.int
  | [], _, _, .nil, h => by cases h; rfl
  | d :: r, _, _, .cons a b, h => by
    unfold mapO at h
    split at h
    · rename_i k ks e1 e2
      cases h
      cases a <;> first | cases e1 | skip
      rw [List.map_cons, ints_at b e2]
    · cases h
theorem bls_at {μ : Mp} {H : Hp} : ∀ {xs : List D} {vs : List V} {ns : List Bool}, VRs Γ μ H xs vs → mapO asBl xs = some ns → vs = ns.map V.bl
  | [], _, _, .nil, h => by cases h; rfl
  | d :: r, _, _, .cons a b, h => by
    unfold mapO at h
    split at h
    · rename_i k ks e1 e2
      cases h
      cases a <;> first | cases e1 | skip
      rw [List.map_cons, bls_at b e2]
    · cases h
theorem ints_of {μ : Mp} {H : Hp} : ∀ (ns : List Int), VRs Γ μ H (ns.map D.int) (ns.map V.int)
  | [] => .nil
  | n :: r => .cons (.int n) (ints_of r)
def opAll : OpC := fun ds S => match ds with
  | [d] => match seqA d S with
    | some xs => match mapO asBl xs with
      | some bs => .ok (.bl (bs.all id)) S
      | none => .no
    | none => .no
  | _ => .no
theorem rd_all : RdC Γ W (rAll X.K) opAll := by
  intro H Q vs μ ds S n rv m sat
  unfold opAll at sat
  split at sat
  · obtain ⟨v, rfl, r⟩ := rv.one
    split at sat
    · rename_i xs e
      split at sat
      · rename_i bs e2
        obtain ⟨p, vs, rfl, hq, rs⟩ := seqA_at X.K m r e
        have e3 := bls_at rs e2
        subst e3
        exact ⟨p, bs, rfl, hq, KD.here sat m (.bl _)⟩
      · exact sat.elim
    · exact sat.elim
  · exact sat.elim
def opAny : OpC := fun ds S => match ds with
  | [d] => match seqA d S with
    | some xs => match mapO asBl xs with
      | some bs => .ok (.bl (bs.any id)) S
      | none => .no
    | none => .no
  | _ => .no
theorem rd_any : RdC Γ W (rAny X.K) opAny := by
  intro H Q vs μ ds S n rv m sat
  unfold opAny at sat
  split at sat
  · obtain ⟨v, rfl, r⟩ := rv.one
    split at sat
    · rename_i xs e
      split at sat
      · rename_i bs e2
        obtain ⟨p, vs, rfl, hq, rs⟩ := seqA_at X.K m r e
        have e3 := bls_at rs e2
        subst e3
        exact ⟨p, bs, rfl, hq, KD.here sat m (.bl _)⟩
      · exact sat.elim
    · exact sat.elim
  · exact sat.elim
def opSum : OpC := fun ds S => match ds with
  | [d] => match seqA d S with
    | some xs => match mapO asInt xs with
      | some bs => .ok (.int bs.sum) S
      | none => .no
    | none => .no
  | _ => .no
theorem rd_sum : RdC Γ W (rSum X.K) opSum := by
  intro H Q vs μ ds S n rv m sat
  unfold opSum at sat
  split at sat
  · obtain ⟨v, rfl, r⟩ := rv.one
    split at sat
    · rename_i xs e
      split at sat
      · rename_i bs e2
        obtain ⟨p, vs, rfl, hq, rs⟩ := seqA_at X.K m r e
        have e3 := ints_at rs e2
        subst e3
        exact ⟨p, bs, rfl, hq, KD.here sat m (.int _)⟩
      · exact sat.elim
    · exact sat.elim
  · exact sat.elim
/-! ### sorted -/
def insI (n : Int) : List Int → List Int
  | [] => [n]
  | m :: r => if n ≤ m then n :: m :: r else m :: insI n r
def isort : List Int → List Int
  | [] => []
  | n :: r => insI n (isort r)
theorem insI_perm (n : Int) : ∀ l : List Int, (insI n l).Perm (n :: l)
  | [] => List.Perm.refl _
  | m :: r => by
    unfold insI
    split
    · exact List.Perm.refl _
    · exact ((insI_perm n r).cons m).trans (List.Perm.swap n m r)
theorem isort_perm : ∀ l : List Int, (isort l).Perm l
  | [] => List.Perm.refl _
  | n :: r => (insI_perm n _).trans ((isort_perm r).cons n)
theorem insI_sorted (n : Int) : ∀ l : List Int, l.Pairwise (· ≤ ·) → (insI n l).Pairwise (· ≤ ·)
  | [], _ => List.pairwise_singleton _ _
  | m :: r, h => by
    unfold insI
    split
    · rename_i hle
      refine List.pairwise_cons.mpr ⟨fun a ha => ?_, h⟩
      rcases List.mem_cons.mp ha with rfl | ha
      · exact hle
      · exact Int.le_trans hle ((List.pairwise_cons.mp h).1 a ha)
    · rename_i hle
      refine List.pairwise_cons.mpr ⟨fun a ha => ?_, insI_sorted n r (List.pairwise_cons.mp h).2⟩
      rcases List.mem_cons.mp ((insI_perm n r).mem_iff.mp ha) with rfl | ha
      · omega
      · exact (List.pairwise_cons.mp h).1 a ha
theorem isort_sorted : ∀ l : List Int, (isort l).Pairwise (· ≤ ·)
  | [] => List.Pairwise.nil
  | n :: r => insI_sorted n _ (isort_sorted r)
theorem sorted_eq {a b : List Int} (hp : a.Perm b) (ha : a.Pairwise (· ≤ ·)) : a = isort b :=
  List.Perm.eq_of_pairwise (fun x y _ _ h1 h2 => Int.le_antisymm h1 h2) ha (isort_sorted b) (hp.trans (isort_perm b).symm)
theorem VRs.len_ints {μ : Mp} {H : Hp} {xs : List D} {ns : List Int} (r : VRs Γ μ H xs (ns.map V.int)) : xs.length = ns.length := by
  rw [r.length, List.length_map]
def opSorted : OpC := fun ds S => match ds with
  | [d] => match seqA d S with
    | some xs => match mapO asInt xs with
      | some bs => .ok (.lst ((isort bs).map .int)) S
      | none => .no
    | none => .no
  | _ => .no
theorem rd_sorted : RdC Γ W (rSortedI X.K) opSorted := by
  intro H Q vs μ ds S n rv m sat
  unfold opSorted at sat
  split at sat
  · obtain ⟨v, rfl, r⟩ := rv.one
    split at sat
    · rename_i xs e
      split at sat
      · rename_i bs e2
        obtain ⟨p, vs, rfl, hq, rs⟩ := seqA_at X.K m r e
        have e3 := ints_at rs e2
        subst e3
        refine ⟨p, bs, rfl, hq, fun ns' q hp hs hq0 => ?_⟩
        rw [sorted_eq hp hs]
        exact KD.newL sat m (ints_of _) hq0
      · exact sat.elim
    · exact sat.elim
  · exact sat.elim
/-! ### list, tuple -/
def opList : OpC := fun ds S => match ds with
  | [d] => match seqOf d S with
    | some xs => .ok (.lst xs) S
    | none => .no
  | _ => .no
theorem rd_list : RdC Γ W (fun xs H Q => ∃ p ys, xs = [.ref p] ∧ (SqL X.K H p ys ∨ SqT X.K H p ys) ∧ ∀ l, H l = none → Q (.ref l) (upd H l (.lst ys))) opList := by
  intro H Q vs μ ds S n rv m sat
  unfold opList at sat
  split at sat
  · obtain ⟨v, rfl, r⟩ := rv.one
    split at sat
    · rename_i xs e
      obtain ⟨p, vs, rfl, hq, rs⟩ := seqOf_at X.K m r e
      exact ⟨p, vs, rfl, hq.symm, fun l hl => KD.newL sat m rs hl⟩
    · exact sat.elim
  · exact sat.elim
/-- list(x), a cell -/
def opListM : OpC := fun ds S => match ds with
  | [d] => match seqOf d S with
    | some xs => .ok (.loc S.length) (S ++ [.lst xs])
    | none => .no
  | _ => .no
theorem rd_listM : RdC Γ W (fun xs H Q => ∃ p ys, xs = [.ref p] ∧ (SqL X.K H p ys ∨ SqT X.K H p ys) ∧ ∀ l, H l = none → Q (.ref l) (upd H l (.lst ys))) opListM := by
  intro H Q vs μ ds S n rv m sat
  unfold opListM at sat
  split at sat
  · obtain ⟨v, rfl, r⟩ := rv.one
    split at sat
    · rename_i xs e
      obtain ⟨p, vs, rfl, hq, rs⟩ := seqOf_at X.K m r e
      exact ⟨p, vs, rfl, hq.symm, fun l hl => KD.newC sat m rs hl⟩
    · exact sat.elim
  · exact sat.elim
def opTuple : OpC := fun ds S => match ds with
  | [.tup xs] => .ok (.tup xs) S
  | [d] => match seqA d S with
    | some xs => .ok (.tup xs) S
    | none => .no
  | _ => .no
theorem rd_tuple : RdC Γ W (fun xs H Q => ∃ p ys, xs = [.ref p] ∧ ((SqL X.K H p ys ∧ ∀ l, H l = none → Q (.ref l) (upd H l (.tup ys))) ∨ (SqT X.K H p ys ∧ Q (.ref p) H))) opTuple := by
  intro H Q vs μ ds S n rv m sat
  unfold opTuple at sat
  split at sat
  · obtain ⟨v, rfl, r⟩ := rv.one
    have r0 := r
    obtain ⟨p, vs, rfl, hq, rs⟩ := tup_at X.K r
    exact ⟨p, vs, rfl, .inr ⟨hq, KD.here sat m r0⟩⟩
  · obtain ⟨v, rfl, r⟩ := rv.one
    split at sat
    · rename_i xs e
      obtain ⟨p, vs, rfl, hq, rs⟩ := seqA_at X.K m r e
      exact ⟨p, vs, rfl, .inl ⟨hq, fun l hl => KD.newT sat m rs hl⟩⟩
    · exact sat.elim
  · exact sat.elim
/-! ### isinstance -/
/-- what stands for a type or a class -/
def tagV (Γ : Nat → Addr) : D → Value
  | .ty n => .type n
  | .gl g => .ref (Γ g)
  | _ => .none
def tagOf (d : D) (S : Sto) : Option D := match d with
  | .non => some (.ty "NoneType")
  | .bl _ => some (.ty "bool")
  | .int _ => some (.ty "int")
  | .str _ => some (.ty "str")
  | .tup _ => some (.ty "tuple")
  | .lst _ => some (.ty "list")
  | .dk _ => some (.ty "dict")
  | .dt _ => none
  | .scr _ => none
  | .obj c _ => some (.gl c)
  | .ty _ => none
  | .gl _ => none
  | .loc n => match S[n]? with
    | some (.lst _) => some (.ty "list")
    | some (.dk _) => some (.ty "dict")
    | some (.dt _) => some (.ty "dict")
    | some (.ins c _) => some (.gl c)
    | none => none
/-- what isinstance asks of an own class -/
structure ClsI (K : PySem.W.Frag) (C : Addr) : Prop where
  cl : Cls K C
  ha : PySem.W.findIn K (.ref C) "__class__" = some (some (.builtin "object.__class__"))
  hn : PySem.W.specialIn K (.builtin "object.__class__") "__get__" = some (some (.builtin "getset_descriptor.__get__"))
  htk : PySem.W.takesIn K (.builtin "object.__class__") = some true
  hm : PySem.W.mroIn K C (.type "object") = some true
/-- the classes whose instances are asked -/
def isCls (own : Nat → Bool) : D → Bool
  | .gl c => own c
  | _ => true
theorem tag_at (K : PySem.W.Frag) {own : Nat → Bool} (hI : ∀ c, own c = true → ClsI K (Γ c)) {μ : Mp} {H : Hp} {S : Sto} (m : MR Γ μ S H) {d t : D} {v : V} (r : VR Γ μ H d v) (h : tagOf d S = some t) (ho : isCls own t = true) : TyX K H v (tagV Γ t) := by
  unfold tagOf at h
  split at h <;> first | cases h | skip
  · cases r; exact .base .non
  · cases r; exact .base (.bl _)
  · cases r; exact .base (.int _)
  · cases r; exact .base (.str _)
  · cases r with
    | tup n e rs => exact .base (.tup e)
  · cases r with
    | lst n e rs => exact .base (.lst e)
  · cases r with
    | dk n e rs =>
      rcases e with e | ⟨o, e⟩
      · exact .base (.dK e)
      · exact .fDict e
  · cases r with
    | obj n e rs =>
      have q := hI _ ho
      exact .base (.ins e q.cl q.ha q.hn q.htk q.hm)
  · split at h <;> first | cases h | skip
    all_goals (rename_i e; obtain ⟨p, rfl, hp, o⟩ := cell_at m r e; cases o)
    · exact .base (.lst (by assumption))
    · exact .base (.dK (by assumption))
    · exact .base (.dT (by assumption))
    · have q := hI _ ho
      exact .base (.ins (by assumption) q.cl q.ha q.hn q.htk q.hm)
def opIsi (own : Nat → Bool) (kt : D → D → Option Bool) : OpC := fun ds S => match ds with
  | [d, .ty n] => match tagOf d S with
    | some t => if isCls own t then match kt t (.ty n) with
      | some b => .ok (.bl b) S
      | none => .no else .no
    | none => .no
  | [d, .gl n] => match tagOf d S with
    | some t => if isCls own t then match kt t (.gl n) with
      | some b => .ok (.bl b) S
      | none => .no else .no
    | none => .no
  | _ => .no
theorem rd_isi {own : Nat → Bool} {kt : D → D → Option Bool} (hI : ∀ c, own c = true → ClsI X.K (Γ c)) (hk : ∀ t c b, kt t c = some b → PySem.W.kitOne X.K (tagV Γ t) (tagV Γ c) = some b) : RdC Γ W (rIsi X.K) (opIsi own kt) := by
  intro H Q vs μ ds S n rv m sat
  unfold opIsi at sat
  split at sat
  · obtain ⟨v, w, rfl, r, r2⟩ := rv.two
    split at sat
    · rename_i t e
      split at sat
      · rename_i ho
        split at sat
        · rename_i b e2
          cases r2
          exact ⟨v, _, tagV Γ t, _, b, rfl, .ty _, tag_at X.K hI m r e ho, hk _ _ _ e2, KD.here sat m (.bl _)⟩
        · exact sat.elim
      · exact sat.elim
    · exact sat.elim
  · obtain ⟨v, w, rfl, r, r2⟩ := rv.two
    split at sat
    · rename_i t e
      split at sat
      · rename_i ho
        split at sat
        · rename_i b e2
          cases r2
          exact ⟨v, _, tagV Γ t, _, b, rfl, .own _, tag_at X.K hI m r e ho, hk _ _ _ e2, KD.here sat m (.bl _)⟩
        · exact sat.elim
      · exact sat.elim
    · exact sat.elim
  · exact sat.elim
end
end Ev
namespace Ev
open PySem PySem.Spec PyProof.Rows L2
/-! ### statements -/
inductive Out where
  | nx (σ : Sg)
  | rt (d : D)
  | bk (σ : Sg)
  | ct (σ : Sg)
abbrev FS := Sg → Sto → Res Out
abbrev FG := D → Sg → Sto → Res Sg
section
variable (Γ : Nat → Addr)
def KS (k : Nat) (μ : Mp) (H : Hp) (Q : L2.St → Hp → Prop) : Sg → Sto → Prop := fun σ S' => ∀ μ' σ' H', Step μ H μ' H' → At Γ k μ' H' σ S' σ' → Q σ' H'
def KO (k : Nat) (μ : Mp) (H : Hp) (E : Ends) : Out → Sto → Prop := fun o S' => match o with
  | .nx σ => KS Γ k μ H E.nx σ S'
  | .bk σ => KS Γ k μ H E.bk σ S'
  | .ct σ => KS Γ k μ H E.ct σ S'
  | .rt d => KD Γ μ H E.rt d S'
def TSv (W : WX) (k : Nat) (g : FS) : TS := fun E σ' H => ∃ μ σ S, At Γ k μ H σ S σ' ∧ (g σ S).Sat (KO Γ k μ H E) (KE Γ W k μ H)
def TGv (W : WX) (k : Nat) (g : FG) : TG := fun v' σ' H Q => ∃ μ σ S d, At Γ k μ H σ S σ' ∧ VR Γ μ H d v' ∧ (g d σ S).Sat (KS Γ k μ H Q) (KE Γ W k μ H)
def SS (X : Cx) (W : WX) (st : Stmt) (g : FS) : Prop := PS X st (TSv Γ W X.N.length g)
def SB (X : Cx) (W : WX) (st : List Stmt) (g : FS) : Prop := PSs X st (TSv Γ W X.N.length g)
def SG (X : Cx) (W : WX) (tg : Expr) (g : FG) : Prop := PG X tg (TGv Γ W X.N.length g)
end
def bNil : FS := fun σ S => .ok (.nx σ) S
def bCons (f g : FS) : FS := fun σ S => (f σ S).bind fun o S1 => match o with
  | .nx σ1 => g σ1 S1
  | o => .ok o S1
def sExpr (f : F1) : FS := fun σ S => (f σ S).bind fun _ S1 => .ok (.nx σ) S1
def sRet (f : F1) : FS := fun σ S => (f σ S).bind fun d S1 => .ok (.rt d) S1
def sRetN : FS := fun _ S => .ok (.rt .non) S
def sPass : FS := fun σ S => .ok (.nx σ) S
def sBreak : FS := fun σ S => .ok (.bk σ) S
def sCont : FS := fun σ S => .ok (.ct σ) S
def sIf (t : FT) (f g : FS) : FS := fun σ S => (t σ S).bind fun b S1 => if b = true then f σ S1 else g σ S1
def sNever : FS := fun _ _ => .no
/-- target = e -/
def sAsg (f : F1) (g : FG) : FS := fun σ S => (f σ S).bind fun d S1 => (g d σ S1).bind fun σ1 S2 => .ok (.nx σ1) S2
def gSlot (i : Nat) : FG := fun d σ S => .ok (σ.set i (some d)) S
/-- several targets from the items of a tuple -/
def gAll : List FG → List D → Sg → Sto → Res Sg
  | [], [], σ, S => .ok σ S
  | g :: gs, d :: ds, σ, S => (g d σ S).bind fun σ1 S1 => gAll gs ds σ1 S1
  | _, _, _, _ => .no
def gTup (gs : List FG) : FG := fun d σ S => match d with
  | .tup xs => if xs.length = gs.length then gAll gs xs σ S else .no
  | _ => .no
def sPar2 (i j : Nat) (g : FA) : FS := fun σ S => (g σ S).bind fun ds S1 => match ds with
  | [v, w] => .ok (.nx ((σ.set i (some v)).set j (some w))) S1
  | _ => .no
def sPar3 (i j l : Nat) (g : FA) : FS := fun σ S => (g σ S).bind fun ds S1 => match ds with
  | [u, v, w] => .ok (.nx (((σ.set i (some u)).set j (some v)).set l (some w))) S1
  | _ => .no
section
variable {Γ : Nat → Addr} {W : WX} {X : Cx} {pos : Pos} {st : Stmt} {rest a b : List Stmt} {e c : Expr} {f : F1} {g h : FS} {t : FT} {fg : FG} {ga : FA} {k : Nat} {μ μ1 : Mp} {H H1 : Hp}
theorem KS.mono {Q : L2.St → Hp → Prop} (s : Step μ H μ1 H1) {σ : Sg} {S : Sto} (q : KS Γ k μ H Q σ S) : KS Γ k μ1 H1 Q σ S := fun μ' σ' H' s' a => q μ' σ' H' (s.trans s') a
theorem KS.here {Q : L2.St → Hp → Prop} {σ : Sg} {S : Sto} {σ' : L2.St} (q : KS Γ k μ H Q σ S) (a : At Γ k μ H σ S σ') : Q σ' H := q μ σ' H Step.refl a
theorem KO.mono {E : Ends} (s : Step μ H μ1 H1) {o : Out} {S : Sto} (q : KO Γ k μ H E o S) : KO Γ k μ1 H1 E o S := by
  cases o with
  | nx σ => exact KS.mono s q
  | bk σ => exact KS.mono s q
  | ct σ => exact KS.mono s q
  | rt d => exact KD.mono s q
theorem Sat.laterO {r : Res Out} {E : Ends} (s : Step μ H μ1 H1) (h : r.Sat (KO Γ k μ H E) (KE Γ W k μ H)) : r.Sat (KO Γ k μ1 H1 E) (KE Γ W k μ1 H1) := h.mono (fun _ _ => KO.mono s) fun _ _ => KE.mono s
theorem Sat.laterG {r : Res Sg} {Q : L2.St → Hp → Prop} (s : Step μ H μ1 H1) (h : r.Sat (KS Γ k μ H Q) (KE Γ W k μ H)) : r.Sat (KS Γ k μ1 H1 Q) (KE Γ W k μ1 H1) := h.mono (fun _ _ => KS.mono s) fun _ _ => KE.mono s
theorem At.set {i : Nat} {d : D} {v : V} {σ : Sg} {S : Sto} {σ' : L2.St} (a : At Γ k μ H σ S σ') (r : VR Γ μ H d v) : At Γ k μ H (σ.set i (some d)) S (σ'.set i (some v)) := by
  refine ⟨⟨by rw [List.length_set, List.length_set]; exact a.sr.len, by rw [List.length_set]; exact a.sr.kk, fun j e h => ?_⟩, a.mr⟩
  by_cases q : i = j
  · subst q
    have hl : i < σ.length := by
      have := (List.getElem?_eq_some_iff.mp h).1
      rwa [List.length_set] at this
    rw [List.getElem?_set_self hl] at h
    cases h
    exact ⟨v, by rw [List.getElem?_set_self (by rw [a.sr.len]; exact hl)], r⟩
  · rw [List.getElem?_set_ne q] at h
    rw [List.getElem?_set_ne q]
    exact a.sr.at_ j e h
theorem b_nil : SB Γ X W [] bNil := by
  refine PSs.imp pss_nil fun E σ' H q => ?_
  obtain ⟨μ, σ, S, a, q⟩ := q
  exact KS.here q a
theorem b_cons (h1 : SS Γ X W st g) (h2 : SB Γ X W rest h) : SB Γ X W (st :: rest) (bCons g h) := by
  refine PSs.imp (pss_cons h1 h2) fun E σ' H q => ?_
  obtain ⟨μ, σ, S, a, q⟩ := q
  refine ⟨μ, σ, S, a, q.of_bind.mono (fun o S1 q1 => ?_) fun _ _ z => z⟩
  cases o with
  | nx σ1 => exact fun μ' σ1' H' s' a' => ⟨μ', σ1, S1, a', Sat.laterO s' q1⟩
  | bk σ1 => exact q1
  | ct σ1 => exact q1
  | rt d => exact q1
theorem b_one (h1 : SS Γ X W st g) : SB Γ X W [st] g := pss_one h1
theorem s_expr (he : SE Γ X W e f) (hs : swapsWith e none pos.line X.env = pure false := by rfl) : SS Γ X W (.Expr e pos) (sExpr f) := by
  refine PS.imp (ps_expr he hs) fun E σ' H q => ?_
  obtain ⟨μ, σ, S, a, q⟩ := q
  exact tev_of a q.of_bind fun d S1 μ1 v1 H1 q1 s1 a1 r1 => KS.here (KS.mono s1 q1) a1
theorem s_doc {x j pos pos'} : SS Γ X W (.Expr (.Constant (.str x) j pos) pos') sPass := by
  refine PS.imp ps_doc fun E σ' H q => ?_
  obtain ⟨μ, σ, S, a, q⟩ := q
  exact KS.here q a
theorem s_ret (he : SE Γ X W e f) : SS Γ X W (.Return (some e) pos) (sRet f) := by
  refine PS.imp (ps_ret he) fun E σ' H q => ?_
  obtain ⟨μ, σ, S, a, q⟩ := q
  exact tev_of a q.of_bind fun d S1 μ1 v1 H1 q1 s1 a1 r1 => KD.here (KD.mono s1 q1) a1.mr r1
theorem s_retN : SS Γ X W (.Return none pos) sRetN := by
  refine PS.imp ps_retN fun E σ' H q => ?_
  obtain ⟨μ, σ, S, a, q⟩ := q
  exact KD.here q a.mr .non
theorem s_pass : SS Γ X W (.Pass pos) sPass := by
  refine PS.imp ps_pass fun E σ' H q => ?_
  obtain ⟨μ, σ, S, a, q⟩ := q
  exact KS.here q a
theorem s_break : SS Γ X W (.Break pos) sBreak := by
  refine PS.imp ps_break fun E σ' H q => ?_
  obtain ⟨μ, σ, S, a, q⟩ := q
  exact KS.here q a
theorem s_continue : SS Γ X W (.Continue pos) sCont := by
  refine PS.imp ps_continue fun E σ' H q => ?_
  obtain ⟨μ, σ, S, a, q⟩ := q
  exact KS.here q a
theorem s_never : SS Γ X W st sNever := by
  refine PS.imp ps_never fun E σ' H q => ?_
  obtain ⟨μ, σ, S, a, q⟩ := q
  exact q
theorem b_never {sts : List Stmt} : SB Γ X W sts sNever := by
  refine PSs.imp pss_never fun E σ' H q => ?_
  obtain ⟨μ, σ, S, a, q⟩ := q
  exact q
theorem s_if (hc : ST Γ X W c t) (ha : SB Γ X W a g) (hb : SB Γ X W b h) : SS Γ X W (.If c a b pos) (sIf t g h) := by
  refine PS.imp (ps_if hc ha hb) fun E σ' H q => ?_
  obtain ⟨μ, σ, S, a, q⟩ := q
  refine ttv_of a q.of_bind fun d S1 μ1 H1 q1 s1 a1 => ?_
  cases d with
  | true => exact ⟨μ1, σ, S1, a1, Sat.laterO s1 q1⟩
  | false => exact ⟨μ1, σ, S1, a1, Sat.laterO s1 q1⟩
/-! ### targets -/
theorem g_slot {i : Nat} {x : Str} (hN : X.N.Nodup) (hi : X.N[i]? = some x) (hx : Loc X.env.scope x := by first | exact Or.inl rfl | exact Or.inr rfl | assumption) (hf : X.fn x = true ∨ X.env.scope.names.lookup x = some .local := by first | exact .inl rfl | exact .inr rfl | assumption) : SG Γ X W (.Name x pos) (gSlot i) := by
  refine ⟨fun pins s σ' H v u Q I r q => ?_⟩
  obtain ⟨μ, σ, S, d, a, vr, q⟩ := q
  exact (pg_name hN hi hx hf).run pins s σ' H v u Q I r (KS.here q (a.set vr))
end
section
variable {Γ : Nat → Addr} {W : WX} {X : Cx} {pos : Pos} {st : Stmt} {rest a b : List Stmt} {e c o ei : Expr} {es : List Expr} {f fo fi : F1} {g h : FS} {t : FT} {fg : FG} {gs : List FG} {ga : FA} {k : Nat} {μ μ1 : Mp} {H H1 : Hp}
def TGvs (Γ : Nat → Addr) (W : WX) (k : Nat) (gs : List FG) : TGs := fun vs' σ' H Q => ∃ μ σ S ds, At Γ k μ H σ S σ' ∧ VRs Γ μ H ds vs' ∧ (gAll gs ds σ S).Sat (KS Γ k μ H Q) (KE Γ W k μ H)
def SGs (Γ : Nat → Addr) (X : Cx) (W : WX) (es : List Expr) (gs : List FG) : Prop := PGs X es (TGvs Γ W X.N.length gs)
theorem gs_nil : SGs Γ X W [] [] := by
  refine ⟨fun pins s σ' H vs us Q I r q => ?_⟩
  obtain ⟨μ, σ, S, ds, a, vr, q⟩ := q
  cases ds with
  | nil =>
    cases vr
    exact pgs_nil.run pins s σ' H [] us Q I r ⟨rfl, KS.here q a⟩
  | cons d ds => exact q.elim
theorem gs_cons (h1 : SG Γ X W e fg) (h2 : SGs Γ X W es gs) (hs : (assignEach (e :: es) X.env).map (·.2) = assign e X.env :: (assignEach es X.env).map (·.2) := by rfl) : SGs Γ X W (e :: es) (fg :: gs) := by
  refine ⟨fun pins s σ' H vs us Q I r q => ?_⟩
  obtain ⟨μ, σ, S, ds, a, vr, q⟩ := q
  cases vr with
  | nil => exact q.elim
  | cons v1 vr =>
    refine (pgs_cons h1 h2 hs).run pins s σ' H _ us Q I r ⟨_, _, rfl, μ, σ, S, _, a, v1, q.of_bind.mono (fun σ1 S1 q1 => ?_) fun _ _ z => z⟩
    exact fun μ' σ1' H' s' a' => ⟨μ', σ1, S1, _, a', vr.mono s', Sat.laterG s' q1⟩
theorem g_tup {kk : Nat} (hc : X.calm = true) (h : SGs Γ X W es gs) (hn : (assignEach es X.env).length = gs.length := by rfl) (hst : (assignEach es X.env).findIdx? (·.1) = none := by rfl) : SG Γ X W (.Tuple es kk pos) (gTup gs) := by
  refine ⟨fun pins s σ' H v u Q I r q => ?_⟩
  obtain ⟨μ, σ, S, d, a, vr, q⟩ := q
  unfold gTup at q
  split at q
  · split at q
    · rename_i hl
      obtain ⟨p, vs, rfl, hp, rs⟩ := tup_at X.K vr
      exact (pg_tup hc h hn hst).run pins s σ' H _ u Q I r ⟨p, vs, rfl, hp, by rw [← rs.length]; exact hl, μ, σ, S, _, a, rs, q⟩
    · exact q.elim
  · exact q.elim
theorem s_asg {tg : Expr} (he : SE Γ X W e f) (hg : SG Γ X W tg fg) (hs : swapsWithSole [tg] e pos.line X.env = pure false := by rfl) (hw : swappedStores [tg] e X.env = pure none := by rfl)
    (h1 : (assignEach [tg] X.env).map (·.2) = [assign tg X.env] := by rfl) : SS Γ X W (.Assign [tg] e pos) (sAsg f fg) := by
  refine PS.imp (ps_asg he hg hs hw h1) fun E σ' H q => ?_
  obtain ⟨μ, σ, S, a, q⟩ := q
  refine tev_of a q.of_bind fun d S1 μ1 v1 H1 q1 s1 a1 r1 => ?_
  refine ⟨μ1, σ, S1, d, a1, r1, q1.of_bind.mono (fun σ1 S2 q2 => KS.mono s1 q2) fun _ _ => KE.mono s1⟩
theorem s_set {i : Nat} {x : Str} {pos' : Pos} (hN : X.N.Nodup) (hi : X.N[i]? = some x) (he : SE Γ X W e f) (hx : Loc X.env.scope x := by first | exact Or.inl rfl | exact Or.inr rfl | assumption) (hs : swapsWith e (some (.Name x pos')) pos.line X.env = pure false := by rfl) (hf : X.fn x = true ∨ X.env.scope.names.lookup x = some .local := by first | exact .inl rfl | exact .inr rfl | assumption) :
    SS Γ X W (.Assign [.Name x pos'] e pos) (sAsg f (gSlot i)) := by
  refine PS.imp (ps_set hN hi hx he hs hf) fun E σ' H q => ?_
  obtain ⟨μ, σ, S, a, q⟩ := q
  exact tev_of a q.of_bind fun d S1 μ1 v1 H1 q1 s1 a1 r1 => KS.here (KS.mono s1 q1) (a1.set r1)
theorem s_par2 {i j : Nat} {x y : Str} {a b : Expr} {px py pt : Pos} {kt k2 pt2} (hc : X.calm = true) (hN : X.N.Nodup) (hi : X.N[i]? = some x) (hj : X.N[j]? = some y) (hij : i ≠ j)
    (hx : X.env.scope.names.lookup x = some .local) (hy : X.env.scope.names.lookup y = some .local) (ha : SA Γ X W [a, b] ga)
    (hw : swappedStores [.Tuple [.Name x px, .Name y py] kt pt] (.Tuple [a, b] k2 pt2) X.env = pure (some [x, y]))
    (hs : swapsWithSole [.Tuple [.Name x px, .Name y py] kt pt] (.Tuple [a, b] k2 pt2) pos.line X.env = pure false := by rfl) :
    SS Γ X W (.Assign [.Tuple [.Name x px, .Name y py] kt pt] (.Tuple [a, b] k2 pt2) pos) (sPar2 i j ga) := by
  refine PS.imp (ps_par hc hN hi hj hij hx hy ha hw hs) fun E σ' H q => ?_
  obtain ⟨μ, σ, S, a, q⟩ := q
  refine tav_of a q.of_bind fun ds S1 μ1 vs H1 q1 s1 a1 r1 => ?_
  split at q1
  · obtain ⟨v, w, rfl, rv, rw'⟩ := r1.two
    exact ⟨v, w, rfl, KS.here (KS.mono s1 q1) ((a1.set rv).set rw')⟩
  · exact q1.elim
theorem VRs.three {μ : Mp} {H : Hp} {d e f : D} {vs : List V} (r : VRs Γ μ H [d, e, f] vs) : ∃ u v w, vs = [u, v, w] ∧ VR Γ μ H d u ∧ VR Γ μ H e v ∧ VR Γ μ H f w := by
  cases r with
  | cons a b =>
    obtain ⟨v, w, rfl, c, d⟩ := b.two
    exact ⟨_, _, _, rfl, a, c, d⟩
theorem s_par3 {i j l : Nat} {x y z : Str} {a b c : Expr} {px py pz pt pos : Pos} {kt k2 pt2} (hc : X.calm = true) (hN : X.N.Nodup) (hi : X.N[i]? = some x) (hj : X.N[j]? = some y) (hl : X.N[l]? = some z) (hij : i ≠ j) (hil : i ≠ l) (hjl : j ≠ l)
    (hx : X.env.scope.names.lookup x = some .local) (hy : X.env.scope.names.lookup y = some .local) (hz : X.env.scope.names.lookup z = some .local) (ha : SA Γ X W [a, b, c] ga)
    (hw : swappedStores [.Tuple [.Name x px, .Name y py, .Name z pz] kt pt] (.Tuple [a, b, c] k2 pt2) X.env = pure (some [x, y, z]))
    (hs : swapsWithSole [.Tuple [.Name x px, .Name y py, .Name z pz] kt pt] (.Tuple [a, b, c] k2 pt2) pos.line X.env = pure false := by rfl) :
    SS Γ X W (.Assign [.Tuple [.Name x px, .Name y py, .Name z pz] kt pt] (.Tuple [a, b, c] k2 pt2) pos) (sPar3 i j l ga) := by
  refine PS.imp (ps_par3 hc hN hi hj hl hij hil hjl hx hy hz ha hw hs) fun E σ' H q => ?_
  obtain ⟨μ, σ, S, a, q⟩ := q
  refine tav_of a q.of_bind fun ds S1 μ1 vs H1 q1 s1 a1 r1 => ?_
  split at q1
  · obtain ⟨u, v, w, rfl, ru, rv, rw'⟩ := r1.three
    exact ⟨u, v, w, rfl, KS.here (KS.mono s1 q1) (((a1.set ru).set rv).set rw')⟩
  · exact q1.elim
end
/-! ### stores into cells -/
def putD {κ : Type} [DecidableEq κ] (kvs : List (κ × D)) (k : κ) (v : D) : List (κ × D) :=
  if (kvs.any fun kv => decide (kv.1 = k)) = true then kvs.map (fun kv => if kv.1 = k then (kv.1, v) else kv) else kvs ++ [(k, v)]
/-- d[k] = v, xs[i] = v: the container, the index, the value -/
def opPut (o i v : D) (S : Sto) : Option Sto := match o with
  | .loc n => match S[n]? with
    | some (.dk kvs) => match keyOf i with
      | some k => if kvs.length < line then some (S.set n (.dk (putD kvs k v))) else none
      | none => none
    | some (.dt kvs) => match i with
      | .tup ys => match keysOf ys with
        | some k => if kvs.length < line then some (S.set n (.dt (putD kvs k v))) else none
        | none => none
      | _ => none
    | _ => none
  | _ => none
def opSetI (o i v : D) (S : Sto) : Option Sto := match o, i with
  | .loc n, .int j => match S[n]? with
    | some (.lst xs) => match ixN xs.length j with
      | some a => some (S.set n (.lst (xs.set a v)))
      | none => none
    | _ => none
  | _, _ => none
def sPut (op : D → D → D → Sto → Option Sto) (fv fo fi : F1) : FS := fun σ S => (fv σ S).bind fun v S1 => (fo σ S1).bind fun o S2 => (fi σ S2).bind fun i S3 => match op o i v S3 with
  | some S4 => .ok (.nx σ) S4
  | none => .no
section
variable {Γ : Nat → Addr} {W : WX} {X : Cx} {pos pos' : Pos} {e o ei : Expr} {fv fo fi : F1} {k : Nat} {μ μ1 : Mp} {H H1 : Hp}
theorem KRs.any {k : Key} : ∀ {ds : List (Key × D)} {vs : List (Key × V)}, KRs Γ μ H ds vs → (ds.any fun kv => decide (kv.1 = k)) = vs.any fun kv => decide (kv.1 = k)
  | _, _, .nil => rfl
  | _, _, .cons a b => by simp only [List.any_cons, KRs.any b]
theorem KRs.mapput {k : Key} {d : D} {v : V} (r : VR Γ μ H d v) : ∀ {ds : List (Key × D)} {vs : List (Key × V)}, KRs Γ μ H ds vs → KRs Γ μ H (ds.map fun kv => if kv.1 = k then (kv.1, d) else kv) (vs.map fun kv => if kv.1 = k then (kv.1, v) else kv)
  | _, _, .nil => .nil
  | (j, x) :: _, (_, y) :: _, .cons a b => by
    rw [List.map_cons, List.map_cons]
    by_cases e : j = k
    · rw [if_pos e, if_pos e]
      exact .cons r (KRs.mapput r b)
    · rw [if_neg e, if_neg e]
      exact .cons a (KRs.mapput r b)
theorem KRs.append : ∀ {ds es : List (Key × D)} {vs ws : List (Key × V)}, KRs Γ μ H ds vs → KRs Γ μ H es ws → KRs Γ μ H (ds ++ es) (vs ++ ws)
  | _, _, _, _, .nil, s => s
  | _, _, _, _, .cons a b, s => .cons a (KRs.append b s)
theorem KRs.put {k : Key} {d : D} {v : V} {ds : List (Key × D)} {vs : List (Key × V)} (h : KRs Γ μ H ds vs) (r : VR Γ μ H d v) : KRs Γ μ H (putD ds k d) (putK vs k v) := by
  unfold putD putK
  rw [KRs.any h]
  split
  · exact KRs.mapput r h
  · exact KRs.append h (.cons r .nil)
theorem TRs.any {k : List Key} : ∀ {ds : List (List Key × D)} {vs : List (List Key × V)}, TRs Γ μ H ds vs → (ds.any fun kv => decide (kv.1 = k)) = vs.any fun kv => decide (kv.1 = k)
  | _, _, .nil => rfl
  | _, _, .cons a b => by simp only [List.any_cons, TRs.any b]
theorem TRs.mapput {k : List Key} {d : D} {v : V} (r : VR Γ μ H d v) : ∀ {ds : List (List Key × D)} {vs : List (List Key × V)}, TRs Γ μ H ds vs → TRs Γ μ H (ds.map fun kv => if kv.1 = k then (kv.1, d) else kv) (vs.map fun kv => if kv.1 = k then (kv.1, v) else kv)
  | _, _, .nil => .nil
  | (j, x) :: _, (_, y) :: _, .cons a b => by
    rw [List.map_cons, List.map_cons]
    by_cases e : j = k
    · rw [if_pos e, if_pos e]
      exact .cons r (TRs.mapput r b)
    · rw [if_neg e, if_neg e]
      exact .cons a (TRs.mapput r b)
theorem TRs.append : ∀ {ds es : List (List Key × D)} {vs ws : List (List Key × V)}, TRs Γ μ H ds vs → TRs Γ μ H es ws → TRs Γ μ H (ds ++ es) (vs ++ ws)
  | _, _, _, _, .nil, s => s
  | _, _, _, _, .cons a b, s => .cons a (TRs.append b s)
theorem TRs.put {k : List Key} {d : D} {v : V} {ds : List (List Key × D)} {vs : List (List Key × V)} (h : TRs Γ μ H ds vs) (r : VR Γ μ H d v) : TRs Γ μ H (putD ds k d) (putK vs k v) := by
  unfold putD putK
  rw [TRs.any h]
  split
  · exact TRs.mapput r h
  · exact TRs.append h (.cons r .nil)
theorem line_lt {n : Nat} (h : n < line) : n < sizeLine := by rw [sizeLine_eq]; exact h
/-- a cell's new object -/
theorem step_set {S : Sto} (m : MR Γ μ S H) {n : Nat} {p : Addr} {u : HO} (hp : μ.cells[n]? = some p) : Step μ H μ (upd H p u) := Step.write (List.mem_of_getElem? hp) (m.notHid (List.mem_of_getElem? hp))
theorem opPut_at {S S' : Sto} {x y d : D} {x' y' v : V} (m : MR Γ μ S H) (rx : VR Γ μ H x x') (ry : VR Γ μ H y y') (rv : VR Γ μ H d v) (h : opPut x y d S = some S') :
    ∃ a H', x' = .ref a ∧ DPut H a y' v H' ∧ Step μ H μ H' ∧ MR Γ μ S' H' := by
  unfold opPut at h
  split at h
  · rename_i n
    split at h
    · rename_i kvs e
      split at h
      · rename_i k e2
        split at h
        · rename_i hl
          cases h
          obtain ⟨p, rfl, hp, oo⟩ := cell_at m rx e
          cases oo with
          | dk eh rs =>
            have ey := keyOf_at ry e2
            have st : ∀ u, Step μ H μ (upd H p u) := fun u => step_set m hp
            exact ⟨p, _, rfl, .inl ⟨_, k, eh, ey, by rw [← rs.length]; exact line_lt hl, rfl⟩, st _, m.write hp (.dk upd_same ((rs.put rv).mono (st _)))⟩
        · cases h
      · cases h
    · rename_i kvs e
      split at h
      · split at h
        · rename_i ys _ k e2
          split at h
          · rename_i hl
            cases h
            obtain ⟨p, rfl, hp, oo⟩ := cell_at m rx e
            cases oo with
            | dt eh rs =>
              cases ry with
              | tup nb hb rt =>
                have ey := keysOf_at rt e2
                subst ey
                have st : ∀ u, Step μ H μ (upd H p u) := fun u => step_set m hp
                exact ⟨p, _, rfl, .inr ⟨_, k, _, eh, rfl, hb, by rw [← rs.length]; exact line_lt hl, rfl⟩, st _, m.write hp (.dt upd_same ((rs.put rv).mono (st _)))⟩
          · cases h
        · cases h
      · cases h
    · cases h
  · cases h
theorem s_dput (hu : X.A.units + 1 < cLine) (ho : SE Γ X W o fo) (hi : SE Γ X W ei fi) (hv : SE Γ X W e fv) (hs : swapsWith e (some (.Subscript o ei pos')) pos.line X.env = pure false := by rfl) : SS Γ X W (.Assign [.Subscript o ei pos'] e pos) (sPut opPut fv fo fi) := by
  refine PS.imp (ps_dput hu ho hi hv hs) fun E σ' H q => ?_
  obtain ⟨μ, σ, S, a, q⟩ := q
  refine tev_of a q.of_bind fun d S1 μ1 v1 H1 q1 s1 a1 r1 => ?_
  refine tev_of a1 (q1.of_bind.mono (fun _ _ z => z) fun _ _ => KE.mono s1) fun x S2 μ2 v2 H2 q2 s2 a2 r2 => ?_
  refine tev_of a2 (q2.of_bind.mono (fun _ _ z => z) fun _ _ => KE.mono (s1.trans s2)) fun y S3 μ3 v3 H3 q3 s3 a3 r3 => ?_
  split at q3
  · rename_i S4 e4
    obtain ⟨p, H4, rfl, hp, st, m4⟩ := opPut_at a3.mr (r2.mono s3) r3 ((r1.mono s2).mono s3) e4
    exact ⟨p, H4, rfl, hp, KS.here (KS.mono ((s1.trans s2).trans (s3.trans st)) q3) (a3.mono st m4)⟩
  · exact q3.elim
theorem s_setL {tpos : Pos} (ho : SE Γ X W o fo) (hi : SE Γ X W ei fi) (hv : SE Γ X W e fv) (ha : ∀ v, assign (.Subscript o ei tpos) X.env v = (do
      let ov ← holding [v] (eval o X.env)
      let iv ← holding [v, ov] (eval ei X.env)
      standAt tpos
      holding [v, ov, iv] (setItem ov iv v)
      release [v, ov, iv] []) := by intro _; rfl) (hs : swapsWithSole [.Subscript o ei tpos] e pos.line X.env = pure false := by rfl) (hw : swappedStores [.Subscript o ei tpos] e X.env = pure none := by rfl)
    (h1 : (assignEach [.Subscript o ei tpos] X.env).map (·.2) = [assign (.Subscript o ei tpos) X.env] := by rfl) : SS Γ X W (.Assign [.Subscript o ei tpos] e pos) (sPut opSetI fv fo fi) := by
  refine PS.imp (ps_asg hv (pg_sub ho hi set_list ha) hs hw h1) fun E σ' H q => ?_
  obtain ⟨μ, σ, S, a, q⟩ := q
  refine tev_of a q.of_bind fun d S1 μ1 v1 H1 q1 s1 a1 r1 => ?_
  refine tev_of a1 (q1.of_bind.mono (fun _ _ z => z) fun _ _ => KE.mono s1) fun x S2 μ2 v2 H2 q2 s2 a2 r2 => ?_
  refine tev_of a2 (q2.of_bind.mono (fun _ _ z => z) fun _ _ => KE.mono (s1.trans s2)) fun y S3 μ3 v3 H3 q3 s3 a3 r3 => ?_
  split at q3
  · rename_i S4 e4
    unfold opSetI at e4
    split at e4
    · rename_i n j
      split at e4
      · rename_i xs ec
        split at e4
        · rename_i b eb
          cases e4
          obtain ⟨p, rfl, hp, oo⟩ := cell_at a3.mr (r2.mono s3) ec
          cases r3
          cases oo with
          | lst eh rs =>
            have st : ∀ u, Step μ3 H3 μ3 (upd H3 p u) := fun u => step_set a3.mr hp
            refine ⟨p, _, j, b, rfl, rfl, eh, by rw [← rs.length]; exact eb, KS.here (KS.mono ((s1.trans s2).trans (s3.trans (st _))) q3) (a3.mono (st _) (a3.mr.write hp (.lst upd_same ((rs.set ((r1.mono s2).mono s3) b).mono (st _)))))⟩
        · cases e4
      · cases e4
    · cases e4
  · exact q3.elim
end
end Ev
namespace Ev
open PySem PySem.Spec PyProof.Rows L2
/-! ### what is walked -/
abbrev FI := Sg → Sto → Res (List D)
/-- an iterator that gives the items, whatever is made meanwhile -/
def IW (Γ : Nat → Addr) (μ : Mp) (H : Hp) (items : List D) (J : It) : Prop :=
  ∃ (G : Hp → Prop) (Y : Nat → Hp → V → Hp → Prop), Walk J items.length G Y ∧ (∀ μ1 H1, Seen Γ μ H μ1 H1 → G H1) ∧
    ∀ i μ1 H1 S1 x' H2, Seen Γ μ H μ1 H1 → MR Γ μ1 S1 H1 → Y i H1 x' H2 → Step μ1 H1 μ1 H2 ∧ MR Γ μ1 S1 H2 ∧ ∃ d, items[i]? = some d ∧ VR Γ μ1 H2 d x'
theorem IW.mono {Γ : Nat → Addr} {μ μ1 : Mp} {H H1 : Hp} {items : List D} {J : It} (s : Seen Γ μ H μ1 H1) (h : IW Γ μ H items J) : IW Γ μ1 H1 items J := by
  obtain ⟨G, Y, w, g, y⟩ := h
  exact ⟨G, Y, w, fun μ2 H2 s2 => g μ2 H2 (s.trans s2), fun i μ2 H2 S2 x' H3 s2 m q => y i μ2 H2 S2 x' H3 (s.trans s2) m q⟩
def KI (Γ : Nat → Addr) (μ : Mp) (H : Hp) (R : It → Hp → Prop) : List D → Sto → Prop := fun items S' => ∀ μ' H' J, Step μ H μ' H' → MR Γ μ' S' H' → IW Γ μ' H' items J → R J H'
def TIv (Γ : Nat → Addr) (W : WX) (k : Nat) (f : FI) : TI := fun σ' H R => ∃ μ σ S, At Γ k μ H σ S σ' ∧ (f σ S).Sat (KI Γ μ H R) (KE Γ W k μ H)
def SI (Γ : Nat → Addr) (X : Cx) (W : WX) (tg iter : Expr) (f : FI) : Prop := PI X tg iter (TIv Γ W X.N.length f)
theorem PI.imp {X : Cx} {tg e : Expr} {t t' : TI} (h : PI X tg e t) (hi : ∀ σ H R, t' σ H R → t σ H R) : PI X tg e t' := ⟨fun pins s σ H R I q => h.run pins s σ H R I (hi σ H R q)⟩
theorem PI.or {X : Cx} {tg e : Expr} {t t' : TI} (h : PI X tg e t) (h' : PI X tg e t') : PI X tg e (fun σ H R => t σ H R ∨ t' σ H R) := ⟨fun pins s σ H R I q => by
  rcases q with q | q
  · exact h.run pins s σ H R I q
  · exact h'.run pins s σ H R I q⟩
theorem KI.here {Γ : Nat → Addr} {μ μ1 : Mp} {H H1 : Hp} {R : It → Hp → Prop} {items : List D} {S : Sto} {J : It} (h : KI Γ μ H R items S) (s : Step μ H μ1 H1) (m : MR Γ μ1 S H1) (w : IW Γ μ1 H1 items J) : R J H1 := h μ1 H1 J s m w
/-- a list that does not change, a tuple -/
def itms (d : D) : Option (List D) := match d with
  | .tup xs => some xs
  | .lst xs => some xs
  | .scr xs => some xs
  | _ => none
def itl (d : D) : Option (List D) := match d with
  | .lst xs => some xs
  | .scr xs => some xs
  | _ => none
def iSeq (f : F1) : FI := fun σ S => (f σ S).bind fun d S1 => match itms d with
  | some xs => .ok xs S1
  | none => .no
def iRange1 (g : FA) : FI := fun σ S => (g σ S).bind fun ds S1 => match ds with
  | [.int j] => if -4611686018427387904 ≤ j ∧ j < 4611686018427387904 then .ok ((List.range j.toNat).map fun i => D.int (i : Nat)) S1 else .no
  | _ => .no
def iRange2 (g : FA) : FI := fun σ S => (g σ S).bind fun ds S1 => match ds with
  | [.int i, .int j] => if -4611686018427387904 ≤ i ∧ i < 4611686018427387904 ∧ -4611686018427387904 ≤ j ∧ j < 4611686018427387904 then .ok ((List.range (j - i).toNat).map fun a => D.int (i + (a : Nat))) S1 else .no
  | _ => .no
def enumD : Nat → List D → List D
  | _, [] => []
  | n, x :: r => .tup [.int (n : Nat), x] :: enumD (n + 1) r
def iEnum (g : FA) : FI := fun σ S => (g σ S).bind fun ds S1 => match ds with
  | [d] => match itl d with
    | some xs => .ok (enumD 0 xs) S1
    | none => .no
  | _ => .no
def zipD : List D → List D → List D
  | x :: xs, y :: ys => .tup [x, y] :: zipD xs ys
  | _, _ => []
def iZip (g : FA) : FI := fun σ S => (g σ S).bind fun ds S1 => match ds with
  | [.tup xs, .tup ys] => .ok (zipD xs ys) S1
  | [d, e] => match itl d, itl e with
    | some xs, some ys => .ok (zipD xs ys) S1
    | _, _ => .no
  | _ => .no
def iRev (f : F1) : FI := fun σ S => (f σ S).bind fun d S1 => match itms d with
  | some xs => .ok xs.reverse S1
  | none => .no
def iStr (f : F1) : FI := fun σ S => (f σ S).bind fun d S1 => match d with
  | .str z => .ok (z.cps.toList.map fun c => D.str ⟨#[c]⟩) S1
  | _ => .no
section
variable {Γ : Nat → Addr} {W : WX} {X : Cx} {pos p : Pos} {tg e e2 : Expr} {f : F1} {g : FA} {μ : Mp} {H : Hp} {S : Sto}
theorem itl_at (m : MR Γ μ S H) {d : D} {v : V} (r : VR Γ μ H d v) {xs : List D} (h : itl d = some xs) : ∃ p vs, v = .ref p ∧ p ∉ μ ∧ Rd H p (.lst vs) ∧ VRs Γ μ H xs vs := by
  unfold itl at h
  split at h
  · cases h
    cases r with
    | lst n e rs => exact ⟨_, _, rfl, n, .inl e, rs⟩
  · cases h
    cases r with
    | scr n e rs => exact ⟨_, _, rfl, n, e, rs⟩
  · cases h
theorem iw_at (K : PySem.W.Frag) {xs : List D} {vs : List V} (rs : VRs Γ μ H xs vs) {J : It} {G : Hp → Prop} (w : Walk J vs.length G (YAt vs)) (g : ∀ μ1 H1, Seen Γ μ H μ1 H1 → G H1) : IW Γ μ H xs J := by
  refine ⟨G, YAt vs, by rw [rs.length]; exact w, g, fun i μ1 H1 S1 x' H2 s m q => ?_⟩
  obtain ⟨rfl, q⟩ := q
  refine ⟨Step.refl, m, ?_⟩
  have hlt : i < xs.length := by
    have := (List.getElem?_eq_some_iff.mp q).1
    rwa [← rs.length] at this
  obtain ⟨v, ev, rv⟩ := rs.get (List.getElem?_eq_getElem hlt)
  rw [q] at ev
  cases ev
  exact ⟨_, List.getElem?_eq_getElem hlt, rv.seen s⟩
/-- the reading of a part whose answer is seen -/
theorem tev_ok {k : Nat} {σ : Sg} {σ' : L2.St} {Q : VK} {d : D} {S1 : Sto} (a : At Γ k μ H σ S σ') (h : f σ S = .ok d S1) (kk : ∀ μ1 v1 H1, Step μ H μ1 H1 → At Γ k μ1 H1 σ S1 σ' → VR Γ μ1 H1 d v1 → Q v1 H1) : TEv Γ W k f σ' H Q :=
  tev_of (R := fun d2 S2 => d2 = d ∧ S2 = S1) a (by rw [h]; exact ⟨rfl, rfl⟩) fun d2 S2 μ1 v1 H1 e s a1 r => by
    obtain ⟨rfl, rfl⟩ := e
    exact kk μ1 v1 H1 s a1 r
theorem tav_ok {k : Nat} {σ : Sg} {σ' : L2.St} {Q : List V → Hp → Prop} {d : List D} {S1 : Sto} (a : At Γ k μ H σ S σ') (h : g σ S = .ok d S1) (kk : ∀ μ1 v1 H1, Step μ H μ1 H1 → At Γ k μ1 H1 σ S1 σ' → VRs Γ μ1 H1 d v1 → Q v1 H1) : TAv Γ W k g σ' H Q :=
  tav_of (R := fun d2 S2 => d2 = d ∧ S2 = S1) a (by rw [h]; exact ⟨rfl, rfl⟩) fun d2 S2 μ1 v1 H1 e s a1 r => by
    obtain ⟨rfl, rfl⟩ := e
    exact kk μ1 v1 H1 s a1 r
/-- .. or an exception -/
theorem tev_ex {k : Nat} {σ : Sg} {σ' : L2.St} {Q : VK} {x : XV} {S1 : Sto} (a : At Γ k μ H σ S σ') (h : f σ S = .ex x S1) (kk : KE Γ W k μ H x S1) : TEv Γ W k f σ' H Q :=
  ⟨μ, σ, S, a, by rw [h]; exact kk⟩
theorem tav_ex {k : Nat} {σ : Sg} {σ' : L2.St} {Q : List V → Hp → Prop} {x : XV} {S1 : Sto} (a : At Γ k μ H σ S σ') (h : g σ S = .ex x S1) (kk : KE Γ W k μ H x S1) : TAv Γ W k g σ' H Q :=
  ⟨μ, σ, S, a, by rw [h]; exact kk⟩
theorem i_seq (he : SE Γ X W e f) : SI Γ X W tg e (iSeq f) := by
  refine PI.imp (PI.or (pi_list he) (pi_tup he)) fun σ' H R h => ?_
  obtain ⟨μ, σ, S, a, h⟩ := h
  unfold iSeq at h
  cases ef : f σ S with
  | ex x S1 => rw [ef] at h; exact .inl (tev_ex a ef h)
  | no => rw [ef] at h; exact h.elim
  | ok d S1 =>
    rw [ef] at h
    have h : (match itms d with | some xs => Res.ok xs S1 | none => .no).Sat (KI Γ μ H R) (KE Γ W X.N.length μ H) := h
    unfold itms at h
    cases d <;> try exact h.elim
    · refine .inr (tev_ok a ef fun μ1 v1 H1 s1 a1 r1 => ?_)
      cases r1 with
      | tup n eh rs => exact ⟨_, rfl, ⟨_, .inl (.inl eh)⟩, h μ1 H1 _ s1 a1.mr (iw_at X.K rs walk_tup fun μ2 H2 s2 => .inl (.inl (s2.keep _ _ eh n).2))⟩
    · refine .inl (tev_ok a ef fun μ1 v1 H1 s1 a1 r1 => ?_)
      cases r1 with
      | lst n eh rs => exact ⟨_, rfl, ⟨_, .inl (.inl eh)⟩, h μ1 H1 _ s1 a1.mr (iw_at X.K rs walk_list fun μ2 H2 s2 => .inl (.inl (s2.keep _ _ eh n).2))⟩
    · refine .inl (tev_ok a ef fun μ1 v1 H1 s1 a1 r1 => ?_)
      cases r1 with
      | scr n eh rs => exact ⟨_, rfl, ⟨_, .inl eh⟩, h μ1 H1 _ s1 a1.mr (iw_at X.K rs walk_list fun μ2 H2 s2 => .inl (s2.rd n eh).2)⟩
/-- items by a function of the turn -/
theorem iw_fn {n : Nat} {J : It} {fv : Nat → V} {fd : Nat → D} (w : Walk J n (fun _ => True) (YFn fv)) (hv : ∀ i μ1 H1, VR Γ μ1 H1 (fd i) (fv i)) : IW Γ μ H ((List.range n).map fd) J := by
  refine ⟨fun _ => True, fun i H1 x' H2 => i < n ∧ YFn fv i H1 x' H2, ?_, fun _ _ _ => trivial, fun i μ1 H1 S1 x' H2 s m q => ?_⟩
  · rw [List.length_map, List.length_range]
    exact w.mono (fun _ h => h) fun i H x H' hi _ y => ⟨hi, y⟩
  · obtain ⟨hi, rfl, rfl⟩ := q
    exact ⟨Step.refl, m, fd i, by rw [List.getElem?_map, List.getElem?_range hi]; rfl, hv i _ _⟩
theorem i_range1 (hg : Gl X "range") (hm : X.mg "range" = none) (ha : SA Γ X W [e] g) (hs : starEach [e] X.env = [(false, eval e X.env)] := by rfl) : SI Γ X W tg (.Call (.Name "range" p) [e] [] pos) (iRange1 g) := by
  refine PI.imp (pi_range1 hg hm ha hs) fun σ' H R h => ?_
  obtain ⟨μ, σ, S, a, h⟩ := h
  refine tav_of a h.of_bind fun ds S1 μ1 vs H1 h1 s1 a1 r1 => ?_
  split at h1
  · rename_i j
    split at h1
    · rename_i z
      obtain ⟨v, rfl, r⟩ := r1.one
      cases r
      refine ⟨j, rfl, by omega, by omega, h1 μ1 H1 _ s1 a1.mr (iw_fn walk_range fun i μ2 H2 => ?_)⟩
      have e : (0 : Int) + (i : Nat) = (i : Nat) := by omega
      rw [e]
      exact .int _
    · exact h1.elim
  · exact h1.elim
theorem i_range2 (hg : Gl X "range") (hm : X.mg "range" = none) (ha : SA Γ X W [e, e2] g) (hs : starEach [e, e2] X.env = [(false, eval e X.env), (false, eval e2 X.env)] := by rfl) (hs2 : starEach [e2] X.env = [(false, eval e2 X.env)] := by rfl) : SI Γ X W tg (.Call (.Name "range" p) [e, e2] [] pos) (iRange2 g) := by
  refine PI.imp (pi_range2 hg hm ha hs hs2) fun σ' H R h => ?_
  obtain ⟨μ, σ, S, a, h⟩ := h
  refine tav_of a h.of_bind fun ds S1 μ1 vs H1 h1 s1 a1 r1 => ?_
  split at h1
  · rename_i i j
    split at h1
    · rename_i z
      obtain ⟨v, w, rfl, r, r2⟩ := r1.two
      cases r
      cases r2
      exact ⟨i, j, rfl, by omega, h1 μ1 H1 _ s1 a1.mr (iw_fn walk_range fun i μ2 H2 => .int _)⟩
    · exact h1.elim
  · exact h1.elim
theorem enumD_at : ∀ (xs : List D) (n i : Nat), (enumD n xs)[i]? = xs[i]?.map fun x => D.tup [.int ((n + i : Nat) : Int), x]
  | [], n, i => by simp [enumD]
  | x :: r, n, 0 => by simp [enumD]
  | x :: r, n, i + 1 => by
    have ih := enumD_at r (n + 1) i
    have e : n + 1 + i = n + (i + 1) := by omega
    rw [e] at ih
    simpa [enumD] using ih
theorem enumD_len : ∀ (xs : List D) (n : Nat), (enumD n xs).length = xs.length
  | [], n => rfl
  | x :: r, n => by simp [enumD, enumD_len r]
theorem zipD_len : ∀ (xs ys : List D), (zipD xs ys).length = min xs.length ys.length
  | [], _ => by simp [zipD]
  | _ :: _, [] => by simp [zipD]
  | x :: r, y :: s => by simp [zipD, zipD_len r s]
theorem zipD_at : ∀ (xs ys : List D) (i : Nat) (x y : D), xs[i]? = some x → ys[i]? = some y → (zipD xs ys)[i]? = some (.tup [x, y])
  | [], _, _, _, _, h, _ => by simp at h
  | _ :: _, [], _, _, _, _, h => by simp at h
  | x :: r, y :: s, 0, _, _, h, h2 => by simp at h h2; subst h h2; rfl
  | x :: r, y :: s, i + 1, a, b, h, h2 => by
    simp only [zipD]
    exact zipD_at r s i a b (by simpa using h) (by simpa using h2)
/-- items that are new pairs -/
theorem iw_pair {xs : List D} {n : Nat} {J : It} {G : Hp → Prop} {fx fy : Nat → Option V} (hn : xs.length = n) (w : Walk J n G (YPair fx fy)) (g : ∀ μ1 H1, Seen Γ μ H μ1 H1 → G H1)
    (hv : ∀ i μ1 H1 x y, Seen Γ μ H μ1 H1 → fx i = some x → fy i = some y → ∃ a b, xs[i]? = some (.tup [a, b]) ∧ VR Γ μ1 H1 a x ∧ VR Γ μ1 H1 b y) : IW Γ μ H xs J := by
  refine ⟨G, YPair fx fy, by rw [hn]; exact w, g, fun i μ1 H1 S1 x' H2 s m q => ?_⟩
  obtain ⟨T, x, y, rfl, hT, rfl, ex, ey⟩ := q
  have st : Step μ1 H1 μ1 (upd H1 T (.tup [x, y])) := Step.new hT
  obtain ⟨a, b, e, ra, rb⟩ := hv i μ1 H1 x y s ex ey
  exact ⟨st, m.new hT, _, e, .tup (m.fresh hT) upd_same (.cons (ra.mono st) (.cons (rb.mono st) .nil))⟩
theorem VRs.at_back {xs : List D} {vs : List V} (r : VRs Γ μ H xs vs) {i : Nat} {v : V} (h : vs[i]? = some v) : ∃ d, xs[i]? = some d ∧ VR Γ μ H d v := by
  have hlt : i < xs.length := by
    have := (List.getElem?_eq_some_iff.mp h).1
    rwa [← r.length] at this
  obtain ⟨w, e, rw'⟩ := r.get (List.getElem?_eq_getElem hlt)
  rw [h] at e
  cases e
  exact ⟨_, List.getElem?_eq_getElem hlt, rw'⟩
theorem i_enum {kk : Nat} {tpos : Pos} {elts : List Expr} (hg : Gl X "enumerate") (hm : X.mg "enumerate" = none) (ha : SA Γ X W [e] g) (hs : starEach [e] X.env = [(false, eval e X.env)] := by rfl) : SI Γ X W (.Tuple elts kk tpos) (.Call (.Name "enumerate" p) [e] [] pos) (iEnum g) := by
  refine PI.imp (pi_enum hg hm ha hs) fun σ' H R h => ?_
  obtain ⟨μ, σ, S, a, h⟩ := h
  refine tav_of a h.of_bind fun ds S1 μ1 vs H1 h1 s1 a1 r1 => ?_
  split at h1
  · split at h1
    · rename_i xs e
      obtain ⟨v, rfl, r⟩ := r1.one
      obtain ⟨q, ws, rfl, n, hq, rs⟩ := itl_at a1.mr r e
      refine ⟨q, ws, rfl, .inl hq, h1 μ1 H1 _ s1 a1.mr (iw_pair (by rw [enumD_len, rs.length]) walk_enum (fun μ2 H2 s2 => .inl (s2.rd n hq).2) fun i μ2 H2 x y s2 ex ey => ?_)⟩
      cases ex
      obtain ⟨d, ed, rd⟩ := rs.at_back ey
      exact ⟨.int (i : Nat), d, by rw [enumD_at, ed]; simp, .int _, rd.seen s2⟩
    · exact h1.elim
  · exact h1.elim
theorem walk_zipT {K : PySem.W.Frag} {a b : Addr} {xs ys : List V} {n : Nat} (hn : n = min xs.length ys.length) : Walk (RZ.ItzT K a b) n (fun H => SqT K H a xs ∧ SqT K H b ys) (YPair (fun i => xs[i]?) (fun i => ys[i]?)) := by
  subst hn
  refine ⟨fun i _ hi q => ?_, fun _ q => ⟨xs, ys, q.1, q.2, by omega⟩, fun i H v H' _ q y => ?_⟩
  · have h1 : i < xs.length := by omega
    have h2 : i < ys.length := by omega
    exact ⟨xs, ys, xs[i], ys[i], q.1, q.2, by simp [h1], by simp [h2]⟩
  · obtain ⟨T, x, z, h1, h2, h3, h4, h5⟩ := y
    exact ⟨T, x, z, h1, h2, h3, h4 xs q.1, h5 ys q.2⟩
theorem i_zip {kk : Nat} {tpos : Pos} {elts : List Expr} (hg : Gl X "zip") (hm : X.mg "zip" = none) (ha : SA Γ X W [e, e2] g) (hs : starEach [e, e2] X.env = (false, eval e X.env) :: starEach [e2] X.env := by rfl) (hpl : (backTo pos (starEach [e2] X.env)).any (·.1) = false := by rfl) :
    SI Γ X W (.Tuple elts kk tpos) (.Call (.Name "zip" p) [e, e2] [] pos) (iZip g) := by
  refine PI.imp (RZ.pi_zipA hg hm ha hs hpl) fun σ' H R h => ?_
  obtain ⟨μ, σ, S, a, h⟩ := h
  refine tav_of a h.of_bind fun ds S1 μ1 vs H1 h1 s1 a1 r1 => ?_
  have fin : ∀ {xs ys : List D} {ws us : List V} (rx : VRs Γ μ1 H1 xs ws) (ry : VRs Γ μ1 H1 ys us) (i : Nat) (μ2 : Mp) (H2 : Hp) (x y : V), Seen Γ μ1 H1 μ2 H2 → ws[i]? = some x → us[i]? = some y → ∃ a b, (zipD xs ys)[i]? = some (.tup [a, b]) ∧ VR Γ μ2 H2 a x ∧ VR Γ μ2 H2 b y := fun rx ry i μ2 H2 x y s2 ex ey => by
    obtain ⟨d, ed, rd⟩ := rx.at_back ex
    obtain ⟨e, ee, re⟩ := ry.at_back ey
    exact ⟨d, e, zipD_at _ _ i d e ed ee, rd.seen s2, re.seen s2⟩
  split at h1
  · obtain ⟨v, w, rfl, r, r2⟩ := r1.two
    cases r with
    | tup n1 e1 rs1 =>
      cases r2 with
      | tup n2 e2 rs2 =>
        exact ⟨_, _, _, _, rfl, .inr ⟨.inl (.inl e1), .inl (.inl e2), h1 μ1 H1 _ s1 a1.mr (iw_pair (by rw [zipD_len, rs1.length, rs2.length]) (walk_zipT rfl) (fun μ2 H2 s2 => ⟨.inl (.inl (s2.keep _ _ e1 n1).2), .inl (.inl (s2.keep _ _ e2 n2).2)⟩) (fin rs1 rs2))⟩⟩
  · obtain ⟨v, w, rfl, r, r2⟩ := r1.two
    split at h1
    · rename_i xs ys ex ey
      obtain ⟨q1, ws1, rfl, n1, hq1, rs1⟩ := itl_at a1.mr r ex
      obtain ⟨q2, ws2, rfl, n2, hq2, rs2⟩ := itl_at a1.mr r2 ey
      exact ⟨_, _, _, _, rfl, .inl ⟨.inl hq1, .inl hq2, h1 μ1 H1 _ s1 a1.mr (iw_pair (by rw [zipD_len, rs1.length, rs2.length]) (walk_zip rfl) (fun μ2 H2 s2 => ⟨.inl (s2.rd n1 hq1).2, .inl (s2.rd n2 hq2).2⟩) (fin rs1 rs2))⟩⟩
    · exact h1.elim
  · exact h1.elim
end
end Ev
namespace Ev
open PySem PySem.Spec PyProof.Rows L2
/-! ### for -/
def loopG (body : D → FS) : List D → FS
  | [], σ, S => .ok (.nx σ) S
  | x :: r, σ, S => (body x σ S).bind fun o S1 => match o with
    | .nx σ1 => loopG body r σ1 S1
    | .ct σ1 => loopG body r σ1 S1
    | .bk σ1 => .ok (.nx σ1) S1
    | .rt d => .ok (.rt d) S1
def turnG (g : FG) (b : FS) : D → FS := fun d σ S => (g d σ S).bind b
def sFor (fi : FI) (g : FG) (b : FS) : FS := fun σ S => (fi σ S).bind fun items S1 => loopG (turnG g b) items σ S1
section
variable {Γ : Nat → Addr} {W : WX} {X : Cx} {pos : Pos} {tg iter : Expr} {body : List Stmt} {fi : FI} {g : FG} {b : FS}
theorem s_for (hp : PassesOwn (model X.prog X.w) X.A X.env X.xe) (hc : X.calm = true) (hi : SI Γ X W tg iter fi) (hg : SG Γ X W tg g) (hb : SB Γ X W body b) (hs : ∀ x, foldedSetIterable iter X.env x = pure x := by intro _; rfl) : SS Γ X W (.For tg iter body [] pos) (sFor fi g b) := by
  refine PS.imp (ps_for hp hc hi hg hb hs) fun E σ' H q => ?_
  obtain ⟨μ, σ, S, a, q⟩ := q
  refine ⟨μ, σ, S, a, q.of_bind.mono (fun items S1 q1 => ?_) fun _ _ z => z⟩
  intro μ1 H1 J s1 m1 iw
  obtain ⟨G, Y, w, gs, ys⟩ := id iw
  refine for_it w (fun i σi' Hi => ∃ μi σi Si, Step μ1 H1 μi Hi ∧ At Γ X.N.length μi Hi σi Si σi' ∧ (loopG (turnG g b) (items.drop i) σi Si).Sat (KO Γ X.N.length μ1 H1 E) (KE Γ W X.N.length μ1 H1)) ?_ ?_ ?_ ?_
  · exact ⟨μ1, σ, S1, Step.refl, a.mono s1 m1, by rw [List.drop_zero]; exact Sat.laterO s1 q1⟩
  · rintro i σi' Hi _ ⟨μi, σi, Si, si, _, _⟩
    exact gs μi Hi si.seen
  · rintro i x' σi' Hi H2 hi ⟨μi, σi, Si, si, ai, qi⟩ y
    obtain ⟨s2, m2, d, ed, rd⟩ := ys i μi Hi Si x' H2 si.seen ai.mr y
    have hlt : i < items.length := (List.getElem?_eq_some_iff.mp ed).1
    have ed' : items[i] = d := by
      rw [List.getElem?_eq_getElem hlt] at ed
      exact Option.some.inj ed
    rw [List.drop_eq_getElem_cons hlt, ed'] at qi
    have s12 := si.trans s2
    have qi1 : ((turnG g b d σi Si).bind fun o S1 => match o with | .nx σ1 => loopG (turnG g b) (items.drop (i + 1)) σ1 S1 | .ct σ1 => loopG (turnG g b) (items.drop (i + 1)) σ1 S1 | .bk σ1 => .ok (.nx σ1) S1 | .rt d => .ok (.rt d) S1).Sat (KO Γ X.N.length μ1 H1 E) (KE Γ W X.N.length μ1 H1) := qi
    refine ⟨μi, σi, Si, d, ai.mono s2 m2, rd, qi1.of_bind.of_bind.mono (fun σ2 S2 q2 => ?_) fun _ _ => KE.mono s12⟩
    intro μ3 σ3' H3 s3 a3
    have s13 := s12.trans s3
    refine ⟨μ3, σ2, S2, a3, q2.mono (fun o S3 q3 => ?_) fun _ _ => KE.mono s13⟩
    cases o with
    | nx σ4 => exact fun μ4 σ4' H4 s4 a4 => ⟨μ4, σ4, S3, s13.trans s4, a4, q3⟩
    | ct σ4 => exact fun μ4 σ4' H4 s4 a4 => ⟨μ4, σ4, S3, s13.trans s4, a4, q3⟩
    | bk σ4 => exact KS.mono s13 q3
    | rt d => exact KD.mono s13 q3
  · rintro σi' Hi ⟨μi, σi, Si, si, ai, qi⟩
    rw [List.drop_length] at qi
    exact KS.here (KS.mono si qi) ai
end
/-! ### comprehensions -/
/-- a target of a comprehension: a name, or several -/
inductive Pat where
  | slot (i : Nat)
  | tup (is : List Nat)
def Pat.slots : Pat → List Nat
  | .slot i => [i]
  | .tup is => is
def setsV (σ : L2.St) : List Nat → List V → L2.St
  | i :: is, v :: vs => setsV (σ.set i (some v)) is vs
  | _, _ => σ
def setsD (σ : Sg) : List Nat → List D → Sg
  | i :: is, v :: vs => setsD (σ.set i (some v)) is vs
  | _, _ => σ
def gPat (K : PySem.W.Frag) (p : Pat) : TG := match p with
  | .slot i => fun v σ H Q => Q (σ.set i (some v)) H
  | .tup is => fun v σ H Q => ∃ a xs, v = .ref a ∧ SqT K H a xs ∧ xs.length = is.length ∧ Q (setsV σ is xs) H
def patD (p : Pat) (d : D) (σ : Sg) : Option Sg := match p with
  | .slot i => some (σ.set i (some d))
  | .tup is => match d with
    | .tup xs => if xs.length = is.length then some (setsD σ is xs) else none
    | _ => none
def wipeD (σ : Sg) : List Nat → Sg
  | [] => σ
  | v :: vs => (wipeD σ vs).set v none
def consO {α : Type} : Option α → List α → List α
  | some y, ys => y :: ys
  | none, ys => ys
/-- what a comprehension makes -/
def lcG (turn : D → Sto → Res (Option D)) : List D → Sto → Res (List D)
  | [], S => .ok [] S
  | x :: r, S => (turn x S).bind fun o S1 => (lcG turn r S1).bind fun ys S2 => .ok (consO o ys) S2
def tYesD : FT := fun _ S => .ok true S
def lcTurn (p : Pat) (ft : FT) (fe : F1) (σ : Sg) : D → Sto → Res (Option D) := fun d S => match patD p d σ with
  | some σ1 => (ft σ1 S).bind fun b S1 => if b = true then (fe σ1 S1).bind fun y S2 => .ok (some y) S2 else .ok none S1
  | none => .no
/-- nothing may be raised within -/
def Res.nox {α : Type} : Res α → Res α
  | .ok a S => .ok a S
  | .ex _ _ => .no
  | .no => .no
def eLc (fi : FI) (p : Pat) (ft : FT) (fe : F1) (own : List Nat) : F1 := fun σ S => (fi σ S).bind fun items S1 => if items.length < line then (lcG (lcTurn p ft fe (wipeD σ own)) items S1).nox.bind fun ys S2 => .ok (.lst ys) S2 else .no
/-- .. as a cell -/
def eLcM (fi : FI) (p : Pat) (ft : FT) (fe : F1) (own : List Nat) : F1 := fun σ S => (fi σ S).bind fun items S1 => if items.length < line then (lcG (lcTurn p ft fe (wipeD σ own)) items S1).nox.bind fun ys S2 => .ok (.loc S2.length) (S2 ++ [.lst ys]) else .no
abbrev W0 : WX := fun _ _ _ _ => False
section
variable {Γ : Nat → Addr} {W : WX} {X : Cx} {pos : Pos} {k : Nat} {μ μ1 : Mp} {H H1 : Hp} {σ : Sg} {S : Sto} {σ' : L2.St}
theorem At.sets (a : At Γ k μ H σ S σ') : ∀ {is : List Nat} {ds : List D} {vs : List V}, VRs Γ μ H ds vs → At Γ k μ H (setsD σ is ds) S (setsV σ' is vs) := by
  intro is ds vs r
  induction is generalizing σ σ' ds vs with
  | nil => cases r <;> exact a
  | cons i is ih =>
    cases r with
    | nil => exact a
    | cons x r => exact ih (a.set x) r
theorem At.forget (a : At Γ k μ H σ S σ') (i : Nat) : At Γ k μ H (σ.set i none) S (σ'.set i none) := by
  refine ⟨⟨by rw [List.length_set, List.length_set]; exact a.sr.len, by rw [List.length_set]; exact a.sr.kk, fun j d h => ?_⟩, a.mr⟩
  by_cases q : i = j
  · subst q
    have hl : i < σ.length := by
      have := (List.getElem?_eq_some_iff.mp h).1
      rwa [List.length_set] at this
    rw [List.getElem?_set_self hl] at h
    cases h
  · rw [List.getElem?_set_ne q] at h
    rw [List.getElem?_set_ne q]
    exact a.sr.at_ j d h
theorem At.wipe (a : At Γ k μ H σ S σ') : ∀ vs : List Nat, At Γ k μ H (wipeD σ vs) S (L2.wipe σ' vs)
  | [] => a
  | v :: vs => (At.wipe a vs).forget v
theorem wipe_wipe_set {i : Nat} {o : Option V} : ∀ (vs : List Nat) (σ : L2.St), i ∈ vs → L2.wipe (σ.set i o) vs = L2.wipe σ vs := by
  intro vs
  induction vs with
  | nil => intro σ h; simp at h
  | cons v vs ih =>
    intro σ h
    unfold L2.wipe
    by_cases e : i ∈ vs
    · rw [ih σ e]
    · have ev : i = v := by
        rcases List.mem_cons.mp h with h | h
        · exact h
        · exact absurd h e
      subst ev
      have hw : ∀ (vs : List Nat) (σ : L2.St), i ∉ vs → L2.wipe (σ.set i o) vs = (L2.wipe σ vs).set i o := by
        intro vs
        induction vs with
        | nil => intro σ _; rfl
        | cons w ws ih2 =>
          intro σ hn
          unfold L2.wipe
          rw [ih2 σ (fun z => hn (List.mem_cons_of_mem _ z)), List.set_comm _ _ (fun z => hn (by rw [z]; exact List.mem_cons_self))]
      rw [hw vs σ e, List.set_set]
theorem wipe_setsV {vs : List Nat} : ∀ (is : List Nat) (xs : List V) (σ : L2.St), (∀ i ∈ is, i ∈ vs) → L2.wipe (setsV σ is xs) vs = L2.wipe σ vs
  | [], _, _, _ => rfl
  | _ :: _, [], _, _ => rfl
  | i :: is, x :: xs, σ, h => by
    show L2.wipe (setsV (σ.set i (some x)) is xs) vs = _
    rw [wipe_setsV is xs _ (fun j hj => h j (List.mem_cons_of_mem _ hj)), wipe_wipe_set vs σ (h i List.mem_cons_self)]
theorem wipe_wipe (vs : List Nat) : ∀ (σ : L2.St), L2.wipe (L2.wipe σ vs) vs = L2.wipe σ vs := by
  have h : ∀ (ws : List Nat) (σ : L2.St), (∀ i ∈ ws, i ∈ vs) → L2.wipe (L2.wipe σ ws) vs = L2.wipe σ vs := by
    intro ws
    induction ws with
    | nil => intro σ _; rfl
    | cons w ws ih =>
      intro σ hw
      show L2.wipe ((L2.wipe σ ws).set w Option.none) vs = _
      rw [wipe_wipe_set vs _ (hw w List.mem_cons_self), ih σ fun i hi => hw i (List.mem_cons_of_mem _ hi)]
  exact fun σ => h vs σ fun _ h => h
/-! #### what is hidden for a while -/
abbrev Mp.hide (μ : Mp) (p : Addr) : Mp := ⟨μ.cells, p :: μ.hid⟩
theorem not_hide {p q : Addr} (h : q ∉ μ) (n : q ≠ p) : q ∉ μ.hide p := fun z => by
  rcases z with z | z
  · exact h (.inl z)
  · rcases List.mem_cons.mp z with z | z
    · exact n z
    · exact h (.inr z)
theorem not_unhide {p q : Addr} (h : q ∉ μ.hide p) : q ∉ μ := fun z => by
  rcases z with z | z
  · exact h (.inl z)
  · exact h (.inr (List.mem_cons_of_mem _ z))
end
section
variable {Γ : Nat → Addr} {W : WX} {X : Cx} {pos : Pos} {k : Nat} {μ μ' : Mp} {H H' : Hp} {σ : Sg} {S : Sto} {σ' : L2.St}
/-- a new list is laid and hidden -/
theorem Seen.hide {p : Addr} {o : HO} (h : H p = none) : Seen Γ μ H (μ.hide p) (upd H p o) :=
  ⟨⟨[], by simp⟩, fun q u e n => ⟨not_hide n (ne_of_none e h), .inl (keep_new h e)⟩⟩
theorem MR.hide (m : MR Γ μ S H) {p : Addr} {o : HO} (h : H p = none) (nt : NT o := by intro _ z; cases z) : MR Γ (μ.hide p) S (upd H p o) := by
  refine ⟨m.len, m.nd, fun i u q hi hq => (m.ob i u q hi hq).seen (Seen.hide h) fun u e => keep_new h e, fun q hq => ?_⟩
  rcases List.mem_cons.mp hq with rfl | hq
  · exact ⟨⟨o, upd_same, nt⟩, fun z => m.fresh h (.inl z)⟩
  · obtain ⟨⟨u, e, t⟩, n⟩ := m.hd q hq
    exact ⟨⟨u, keep_new h e, t⟩, n⟩
theorem At.hide (a : At Γ k μ H σ S σ') {p : Addr} {o : HO} (h : H p = none) (nt : NT o := by intro _ z; cases z) : At Γ k (μ.hide p) (upd H p o) σ S σ' :=
  ⟨⟨a.sr.len, a.sr.kk, fun i d e => let ⟨v, e1, r⟩ := a.sr.at_ i d e; ⟨v, e1, r.seen (Seen.hide h)⟩⟩, a.mr.hide h nt⟩
/-- it is shown again -/
theorem Seen.show {μ0 : Mp} {p : Addr} (h : μ.hid = p :: μ0.hid) (hc : μ.cells = μ0.cells) : Seen Γ μ H μ0 H :=
  ⟨⟨[], by rw [hc]; simp⟩, fun q u e n => ⟨fun z => n (by
    rcases z with z | z
    · exact .inl (by rw [hc]; exact z)
    · exact .inr (by rw [h]; exact List.mem_cons_of_mem _ z)), .inl e⟩⟩
end
end Ev
namespace Ev
open PySem PySem.Spec PyProof.Rows L2
section
variable {Γ : Nat → Addr} {W : WX} {X : Cx} {k : Nat} {μ : Mp} {H : Hp} {σ : Sg} {S : Sto} {σ' : L2.St}
/-- the machine's side of a comprehension's target -/
theorem gPat_at (K : PySem.W.Frag) {p : Pat} {d : D} {v : V} {σ1 : Sg} (a : At Γ k μ H σ S σ') (r : VR Γ μ H d v) (h : patD p d σ = some σ1) {own : List Nat} (ho : ∀ i ∈ p.slots, i ∈ own) {Q : L2.St → Hp → Prop}
    (q : ∀ σ1', At Γ k μ H σ1 S σ1' → L2.wipe σ1' own = L2.wipe σ' own → Q σ1' H) : gPat K p v σ' H Q := by
  unfold patD at h
  unfold gPat
  cases p with
  | slot i =>
    cases h
    exact q _ (a.set r) (wipe_wipe_set own σ' (ho i (by simp [Pat.slots])))
  | tup is =>
    dsimp only at h ⊢
    split at h
    · split at h
      · rename_i xs hl
        cases h
        obtain ⟨p, vs, rfl, hp, rs⟩ := tup_at K r
        exact ⟨p, vs, rfl, hp, by rw [← rs.length]; exact hl, q _ (a.sets rs) (wipe_setsV is vs σ' ho)⟩
      · cases h
    · cases h
/-- one turn, seen from its end -/
theorem lcG_cons {turn : D → Sto → Res (Option D)} {x : D} {r : List D} {ys : List D} {S' : Sto} (h : lcG turn (x :: r) S = .ok ys S') :
    ∃ o S1 zs, turn x S = .ok o S1 ∧ lcG turn r S1 = .ok zs S' ∧ ys = consO o zs := by
  have h : ((turn x S).bind fun o S1 => (lcG turn r S1).bind fun ys S2 => .ok (consO o ys) S2) = .ok ys S' := h
  cases e : turn x S with
  | ok o S1 =>
    rw [e] at h
    have h : ((lcG turn r S1).bind fun ys S2 => Res.ok (consO o ys) S2) = .ok ys S' := h
    cases e2 : lcG turn r S1 with
    | ok zs S2 =>
      rw [e2] at h
      cases h
      exact ⟨o, S1, zs, rfl, e2, rfl⟩
    | ex _ _ => rw [e2] at h; cases h
    | no => rw [e2] at h; cases h
  | ex _ _ => rw [e] at h; cases h
  | no => rw [e] at h; cases h
end
section
variable {Γ : Nat → Addr} {W : WX} {X : Cx} {elt tg iter : Expr} {ifs : List Expr} {scope : Scope} {own : List (Str × Nat)} {pos : Pos} {fi : FI} {p : Pat} {ft : FT} {fe : F1} {k : Nat} {μ : Mp} {H : Hp} {σ : Sg} {S : Sto} {σ' : L2.St}
/-- the tests of a comprehension -/
def STs (Γ : Nat → Addr) (X : Cx) (W : WX) (ifs : List Expr) (f : FT) : Prop := PTs X ifs (TTv Γ W X.N.length f)
theorem ts_nil : STs Γ X W [] tYesD := by
  refine ⟨fun pins s σ' H Q I h => ?_⟩
  obtain ⟨μ, σ, S, a, h⟩ := h
  exact pts_nil.run pins s σ' H Q I (h μ H Step.refl a.mr)
theorem ts_one {c : Expr} {f : FT} (h : ST Γ X W c f) : STs Γ X W [c] f := pts_one h
/-- an answer that is seen -/
theorem sat_ok {α : Type} {r : Res α} {a : α} {S : Sto} {Q : α → Sto → Prop} {E : XV → Sto → Prop} (e : r = .ok a S) (h : Q a S) : r.Sat Q E := by rw [e]; exact h
/-- the core: the reading of a comprehension whose answer is seen -/
theorem lc_run (K : PySem.W.Frag) {vs : List Nat} {items ys : List D} {S2 : Sto} {J : It} {D0 : Addr} {Qd : Hp → Prop} (hp : ∀ i ∈ p.slots, i ∈ vs) (a : At Γ k μ H σ S σ') (iw : IW Γ μ H items J) (hD : H D0 = none) (hl : items.length < line)
    (e : lcG (lcTurn p ft fe (wipeD σ vs)) items S = .ok ys S2) (fin : ∀ (ν : Mp) H' acc, Step μ H ν H' → MR Γ (ν.hide D0) S2 H' → D0 ∉ ν → H' D0 = some (.lst acc) → VRs Γ (ν.hide D0) H' ys acc → Qd H') :
    ∃ W1 : Nat → Nat → Hp → Prop, (∃ m, W1 0 m (upd H D0 (.lst []))) ∧ ∀ i m H, W1 i m H →
      (J.stop i H ∧ Qd H) ∨ (J.go i H ∧ ∃ Nx : Hp → Prop, (∀ H', Nx H' → ∃ m', m' < m ∧ W1 (i + 1) m' H') ∧ ∀ x H', J.yld i H x H' → gPat K p x (L2.wipe σ' vs) H' fun σ2 H2 => L2.wipe σ2 vs = L2.wipe σ' vs ∧ TTv Γ W0 k ft σ2 H2 fun b H3 =>
        if b = true then TEv Γ W0 k fe σ2 H3 fun y H4 => ∃ acc, H4 D0 = some (.lst acc) ∧ acc.length < sizeLine ∧ Nx (upd H4 D0 (.lst (acc ++ [y]))) else Nx H3) := by
  obtain ⟨G, Y, w, gs, yl⟩ := id iw
  have nD : D0 ∉ μ := a.mr.fresh hD
  -- between the turns: ν is the map without the new list
  refine lc_it w (fun i Hi => ∃ (ν : Mp) (Si : Sto) (done : List D) (acc : List V) (zs : List D), Step μ H ν Hi ∧ D0 ∉ ν ∧ At Γ k (ν.hide D0) Hi (wipeD σ vs) Si (L2.wipe σ' vs) ∧ Hi D0 = some (.lst acc) ∧ VRs Γ (ν.hide D0) Hi done acc ∧ acc.length ≤ i ∧ lcG (lcTurn p ft fe (wipeD σ vs)) (items.drop i) Si = .ok zs S2 ∧ ys = done ++ zs) ?_ ?_ ?_ ?_
  · refine ⟨μ, S, [], [], ys, Step.new hD, nD, (a.wipe vs).hide hD, upd_same, .nil, Nat.le_refl _, by rw [List.drop_zero]; exact e, rfl⟩
  · rintro i Hi _ ⟨ν, Si, done, acc, zs, si, _⟩
    exact gs ν Hi si.seen
  · rintro i x' Hi H2 hi ⟨ν, Si, done, acc, zs, si, nν, ai, hacc, rdn, hlen, ez, ey⟩ y
    have hs : Seen Γ μ H (ν.hide D0) Hi := ⟨si.pre, fun q u e n => by
      obtain ⟨n1, e1⟩ := si.kp q u e n
      exact ⟨not_hide n1 (ne_of_none e hD), e1⟩⟩
    obtain ⟨s2, m2, d, ed, rd⟩ := yl i (ν.hide D0) Hi Si x' H2 hs ai.mr y
    have hlt : i < items.length := (List.getElem?_eq_some_iff.mp ed).1
    have ed' : items[i] = d := by
      rw [List.getElem?_eq_getElem hlt] at ed
      exact Option.some.inj ed
    rw [List.drop_eq_getElem_cons hlt, ed'] at ez
    obtain ⟨o, S3, ws, et, er, ezz⟩ := lcG_cons ez
    -- one more Step under the hidden list is a Step without it
    have unh : ∀ {μ5 : Mp} {H5 : Hp}, Step (ν.hide D0) Hi μ5 H5 → ∀ {S5 : Sto}, MR Γ μ5 S5 H5 → ∃ ν5 : Mp, μ5 = ν5.hide D0 ∧ Step μ H ν5 H5 ∧ D0 ∉ ν5 ∧ H5 D0 = some (.lst acc) := fun {μ5 H5} s {S5} m5 => by
      obtain ⟨c5, h5⟩ := μ5
      have eh : h5 = D0 :: ν.hid := s.hid
      subst eh
      have k5 : H5 D0 = some (.lst acc) := s.hkeep D0 _ List.mem_cons_self hacc
      have n5 : D0 ∉ (⟨c5, ν.hid⟩ : Mp) := fun z => by
        rcases z with z | z
        · exact (m5.hd D0 List.mem_cons_self).2 z
        · exact nν (.inr z)
      refine ⟨⟨c5, ν.hid⟩, rfl, si.trans ⟨s.pre, rfl, fun q u eq nq => ?_, fun q u hq eq => s.hkeep q u (List.mem_cons_of_mem _ hq) eq⟩, n5, k5⟩
      by_cases ez : q = D0
      · subst ez
        rw [hacc] at eq
        cases eq
        exact ⟨n5, .inl k5⟩
      · obtain ⟨n1, e1⟩ := s.kp q u eq (not_hide nq ez)
        exact ⟨not_unhide n1, e1⟩
    unfold lcTurn at et
    cases ep : patD p d (wipeD σ vs) with
    | none => rw [ep] at et; cases et
    | some σ1 =>
      rw [ep] at et
      have et : ((ft σ1 Si).bind fun b S1 => if b = true then (fe σ1 S1).bind fun y S2 => Res.ok (some y) S2 else .ok none S1) = .ok o S3 := et
      refine gPat_at K (ai.mono s2 m2) rd ep hp fun σ1' a1 hw => ⟨hw.trans (wipe_wipe vs σ'), ?_⟩
      cases eb : ft σ1 Si with
      | ex _ _ => rw [eb] at et; cases et
      | no => rw [eb] at et; cases et
      | ok b S4 =>
        rw [eb] at et
        have et : (if b = true then (fe σ1 S4).bind fun y S2 => Res.ok (some y) S2 else .ok none S4) = .ok o S3 := et
        refine ⟨_, σ1, Si, a1, sat_ok eb ?_⟩
        intro μ5 H5 s5 m5
        have s25 := s2.trans s5
        cases b with
        | false =>
          cases et
          refine iteF ?_
          obtain ⟨ν5, rfl, st, n5, k5⟩ := unh s25 m5
          exact ⟨ν5, S3, done, acc, ws, st, n5, ai.mono s25 m5, k5, rdn.mono s25, Nat.le_succ_of_le hlen, er, by rw [ey, ezz]; rfl⟩
        | true =>
          refine iteT ?_
          have et : ((fe σ1 S4).bind fun y S2 => Res.ok (some y) S2) = .ok o S3 := et
          cases ee : fe σ1 S4 with
          | ex _ _ => rw [ee] at et; cases et
          | no => rw [ee] at et; cases et
          | ok yd S5 =>
            rw [ee] at et
            cases et
            refine ⟨μ5, σ1, S4, a1.mono s5 m5, sat_ok ee ?_⟩
            intro μ6 y' H6 s6 m6 ry
            have s26 := s25.trans s6
            obtain ⟨ν6, rfl, st, n6, k6⟩ := unh s26 m6
            have hh : D0 ∈ (ν6.hide D0).hid := List.mem_cons_self
            have hsw : Seen Γ (ν6.hide D0) H6 (ν6.hide D0) (upd H6 D0 (.lst (acc ++ [y']))) := Seen.write (.inr hh)
            have a6 := ai.mono s26 m6
            refine ⟨acc, k6, ?_, ν6, S3, done ++ [yd], acc ++ [y'], ws, ⟨st.pre, st.hid, fun q u eq nq => ?_, fun q u hq eq => ?_⟩, n6, ⟨⟨a6.sr.len, a6.sr.kk, fun j dd e1 => let ⟨v, e2, r⟩ := a6.sr.at_ j dd e1; ⟨v, e2, r.seen hsw⟩⟩, m6.writeH hh⟩, upd_same, ((rdn.mono s26).append (.cons ry .nil)).seen hsw, by rw [List.length_append]; exact Nat.succ_le_succ hlen, er, by rw [ey, ezz]; simp [consO]⟩
            · exact line_lt (Nat.lt_of_le_of_lt hlen (Nat.lt_trans hlt hl))
            · obtain ⟨n1, e1⟩ := st.kp q u eq nq
              exact ⟨n1, by rw [upd_ne (ne_of_none eq hD)]; exact e1⟩
            · rw [upd_ne (fun z => nD (.inr (by rw [← z]; exact hq)))]
              exact st.hkeep q u hq eq
  · rintro Hi ⟨ν, Si, done, acc, zs, si, nν, ai, hacc, rdn, hlen, ez, ey⟩
    rw [List.drop_length] at ez
    cases ez
    rw [List.append_nil] at ey
    subst ey
    exact fin ν Hi acc si ai.mr nν hacc rdn
theorem Seen.unhide {μ : Mp} {H : Hp} {p : Addr} : Seen Γ (μ.hide p) H μ H := Seen.show (μ := μ.hide p) (μ0 := μ) (p := p) rfl rfl
theorem MR.show {μ : Mp} {H : Hp} {S : Sto} {p : Addr} (m : MR Γ (μ.hide p) S H) : MR Γ μ S H :=
  ⟨m.len, m.nd, fun i o q hi hq => (m.ob i o q hi hq).seen Seen.unhide fun _ z => z, fun q hq => m.hd q (List.mem_cons_of_mem _ hq)⟩
/-- what was hidden becomes a cell -/
theorem Seen.promote {μ : Mp} {H : Hp} {p : Addr} : Seen Γ (μ.hide p) H (μ.add p) H :=
  ⟨⟨[p], rfl⟩, fun q u e n => ⟨fun z => n (by
    rcases z with z | z
    · rcases List.mem_append.mp z with z | z
      · exact .inl z
      · rw [List.mem_singleton.mp z]
        exact .inr List.mem_cons_self
    · exact .inr (List.mem_cons_of_mem _ z)), .inl e⟩⟩
theorem MR.promote {μ : Mp} {H : Hp} {S : Sto} {p : Addr} {u : O} (m : MR Γ (μ.hide p) S H) (np : p ∉ μ) (h : OR Γ (μ.add p) H u p) : MR Γ (μ.add p) (S ++ [u]) H := by
  have nc : p ∉ μ.cells := fun z => np (.inl z)
  refine ⟨by show (μ.cells ++ [p]).length = _; rw [List.length_append, List.length_append, ← m.len] <;> rfl, ?_, fun i v q hi hq => ?_, fun q hq => ?_⟩
  · show (μ.cells ++ [p]).Nodup
    rw [List.nodup_append]
    refine ⟨m.nd, by simp, fun a ha b hb e => ?_⟩
    simp only [List.mem_singleton] at hb
    subst hb e
    exact nc ha
  · have hq : (μ.cells ++ [p])[i]? = some q := hq
    have hml : μ.cells.length = S.length := m.len
    by_cases hlt : i < S.length
    · rw [List.getElem?_append_left hlt] at hi
      rw [List.getElem?_append_left (by rw [hml]; exact hlt)] at hq
      exact (m.ob i v q hi hq).seen Seen.promote fun _ e => e
    · have e1 : i = S.length := by
        have := (List.getElem?_eq_some_iff.mp hi).1
        simp at this
        omega
      subst e1
      rw [List.getElem?_append_right (Nat.le_refl _)] at hi
      rw [List.getElem?_append_right (by rw [hml] <;> exact Nat.le_refl _)] at hq
      simp [hml] at hi hq
      subst hi hq
      exact h
  · obtain ⟨⟨u, e, t⟩, n⟩ := m.hd q (List.mem_cons_of_mem _ hq)
    refine ⟨⟨u, e, t⟩, fun z => ?_⟩
    rcases List.mem_append.mp z with z | z
    · exact n z
    · exact np (.inr (by rw [← List.mem_singleton.mp z]; exact hq))
/-- [elt for target in iter if ..] -/
theorem s_lc (hc : X.calm = true) (hN : X.N.Nodup) (hi : SI Γ X W tg iter fi) (ok : BlkOk X.N X.env.scope scope own) (hp : ∀ i ∈ p.slots, i ∈ own.map (·.2))
    (hg : ∀ (s : Shared) (H : Hp) (C : Addr) (cl : List (Str × Addr)) (fp : List Addr), PG (X.blk s H scope (compEnvC scope cl C X.env) fp) tg (gPat X.K p))
    (ht : ∀ (s : Shared) (H : Hp) (C : Addr) (cl : List (Str × Addr)) (fp : List Addr), STs Γ (X.blk s H scope (compEnvC scope cl C X.env) fp) W0 ifs ft)
    (he : ∀ (s : Shared) (H : Hp) (C : Addr) (cl : List (Str × Addr)) (fp : List Addr), SE Γ (X.blk s H scope (compEnvC scope cl C X.env) fp) W0 elt fe) (hs : ∀ x, foldedSetIterable iter X.env x = pure x := by intro _; rfl) :
    SE Γ X W (.ListComp elt [⟨tg, iter, ifs, 0⟩] scope pos) (eLc fi p ft fe (own.map (·.2))) := by
  refine PE.imp (pe_lc (tt := TTv Γ W0 X.N.length ft) (te := TEv Γ W0 X.N.length fe) hc hN hi ok hg (fun s H C cl fp => ht s H C cl fp) (fun s H C cl fp => he s H C cl fp) hs) fun σ' H Q h => ?_
  obtain ⟨μ, σ, S, a, h⟩ := h
  refine ⟨μ, σ, S, a, h.of_bind.mono (fun items S1 h1 => ?_) fun _ _ z => z⟩
  intro μ1 H1 J s1 m1 iw D0 hD
  split at h1
  · rename_i hl
    cases e : lcG (lcTurn p ft fe (wipeD σ (own.map (·.2)))) items S1 with
    | ex _ _ => rw [e] at h1; exact h1.elim
    | no => rw [e] at h1; exact h1.elim
    | ok ys S2 =>
      rw [e] at h1
      refine lc_run X.K hp (a.mono s1 m1) iw hD hl e fun μ' H' acc s' m' n' e' r' => ?_
      exact h1 μ' _ H' (s1.trans s') m'.show (.lst n' e' (r'.seen Seen.unhide))
  · exact h1.elim
/-- .. as a cell -/
theorem s_lcM (hc : X.calm = true) (hN : X.N.Nodup) (hi : SI Γ X W tg iter fi) (ok : BlkOk X.N X.env.scope scope own) (hp : ∀ i ∈ p.slots, i ∈ own.map (·.2))
    (hg : ∀ (s : Shared) (H : Hp) (C : Addr) (cl : List (Str × Addr)) (fp : List Addr), PG (X.blk s H scope (compEnvC scope cl C X.env) fp) tg (gPat X.K p))
    (ht : ∀ (s : Shared) (H : Hp) (C : Addr) (cl : List (Str × Addr)) (fp : List Addr), STs Γ (X.blk s H scope (compEnvC scope cl C X.env) fp) W0 ifs ft)
    (he : ∀ (s : Shared) (H : Hp) (C : Addr) (cl : List (Str × Addr)) (fp : List Addr), SE Γ (X.blk s H scope (compEnvC scope cl C X.env) fp) W0 elt fe) (hs : ∀ x, foldedSetIterable iter X.env x = pure x := by intro _; rfl) :
    SE Γ X W (.ListComp elt [⟨tg, iter, ifs, 0⟩] scope pos) (eLcM fi p ft fe (own.map (·.2))) := by
  refine PE.imp (pe_lc (tt := TTv Γ W0 X.N.length ft) (te := TEv Γ W0 X.N.length fe) hc hN hi ok hg (fun s H C cl fp => ht s H C cl fp) (fun s H C cl fp => he s H C cl fp) hs) fun σ' H Q h => ?_
  obtain ⟨μ, σ, S, a, h⟩ := h
  refine ⟨μ, σ, S, a, h.of_bind.mono (fun items S1 h1 => ?_) fun _ _ z => z⟩
  intro μ1 H1 J s1 m1 iw D0 hD
  split at h1
  · rename_i hl
    cases e : lcG (lcTurn p ft fe (wipeD σ (own.map (·.2)))) items S1 with
    | ex _ _ => rw [e] at h1; exact h1.elim
    | no => rw [e] at h1; exact h1.elim
    | ok ys S2 =>
      rw [e] at h1
      refine lc_run X.K hp (a.mono s1 m1) iw hD hl e fun μ' H' acc s' m' n' e' r' => ?_
      -- the new list becomes a cell
      have st : Step μ1 H1 (μ'.add D0) H' := ⟨by
        obtain ⟨ν, e⟩ := s'.pre
        exact ⟨ν ++ [D0], by show μ'.cells ++ [D0] = _; rw [e, List.append_assoc]⟩, s'.hid, fun q u eq nq => by
        obtain ⟨n1, e1⟩ := s'.kp q u eq nq
        refine ⟨fun z => ?_, e1⟩
        rcases z with z | z
        · rcases List.mem_append.mp z with z | z
          · exact n1 (.inl z)
          · rw [List.mem_singleton.mp z, hD] at eq
            cases eq
        · exact n1 (.inr z), s'.hkeep⟩
      have hml : μ'.cells.length = S2.length := m'.len
      exact h1 (μ'.add D0) _ H' (s1.trans st) (m'.promote n' (.lst e' (r'.seen Seen.promote))) (.loc (by show (μ'.cells ++ [D0])[S2.length]? = some D0; rw [← hml, List.getElem?_append_right (Nat.le_refl _)]; simp))
  · exact h1.elim
end
end Ev
namespace Ev
open PySem PySem.Spec PyProof.Rows L2
/-! ### defs -/
abbrev Fd := List D → Sto → Res D
def KX (Γ : Nat → Addr) (μ : Mp) (H : Hp) (E : XK) : XV → Sto → Prop := fun x S' => ∀ μ' H' cls d, Step μ H μ' H' → MR Γ μ' S' H' → XR Γ μ' H' x cls d → E cls d H'
/-- the promise «it does what F says» -/
def spF (Γ : Nat → Addr) (F : Fd) : Sp := fun vs' H Q E => ∃ μ ds S, VRs Γ μ H ds vs' ∧ MR Γ μ S H ∧ (F ds S).Sat (KD Γ μ H Q) (KX Γ μ H E)
/-- a def of the text that keeps it -/
def FnF (Γ : Nat → Addr) (P : Program) (w : World) (K : PySem.W.Frag) (mg : Str → Option Value) (base : Heap) (k : Nat) (f : Addr) (F : Fd) : Prop := FnR P w K mg base (L2.CX P w) k f (spF Γ F)
/-- what a callee raises reaches what is wanted -/
def Pz (X : Cx) (W : WX) : Prop := ∀ σ, PassesAt (L2.CX X.prog X.w) X σ (WE W σ)
theorem pz_of {X : Cx} {W : WX} (tk : Takes X W) : Pz X W := passAt tk
theorem pz0 {X : Cx} : Pz X W0 := fun σ pins H s e s' I c => by
  obtain ⟨a, B, H', cls, d, _, _, _, _, _, _, _, q⟩ := c
  exact q.elim
section
variable {Γ : Nat → Addr} {W : WX} {X : Cx} {k : Nat} {f : Addr} {F : Fd}
theorem run_F {pins : List (Addr × Obj)} {σ' : L2.St} {H : Hp} {s : Shared} {Q : VK} {us : List Value} {vs : List V} {μ : Mp} {ds : List D} {S : Sto} (G : FnF Γ X.prog X.w X.K X.mg X.base k f F) (hr : Room k X.A) (pz : Pz X W) (I : Inv X pins σ' H s)
    (r : Vals vs us) (vr : VRs Γ μ H ds vs) (m : MR Γ μ S H) (sat : (F ds S).Sat (KD Γ μ H Q) (KE Γ W X.N.length μ H)) :
    codeAny (model X.prog X.w) X.A (.call (.ref f) ⟨us, []⟩) (fun r s' => match r with | .ok (.ret v) => EP X pins σ' Q v s' | .ok _ => False | .error e => X.xe e s') s := by
  refine codeAny_mono (G X.A X.stack s H us vs Q (WE W σ') hr I.env0 r ⟨μ, ds, S, vr, m, sat.mono (fun _ _ z => z) fun x S' kx μ' H' cls d st m' xr => kx μ' H' cls d σ' st m' xr I.len⟩) fun r s' hq => ?_
  cases r with
  | error e => exact pz σ' pins H s e s' I hq
  | ok fl =>
    cases fl with
    | ret u => exact I.after hq
    | next => exact False.elim hq
    | brk => exact False.elim hq
    | cont => exact False.elim hq
theorem run_Fw {pins : List (Addr × Obj)} {σ' : L2.St} {H : Hp} {s : Shared} {Q : VK} {us : List Value} {vs : List V} {μ : Mp} {ds : List D} {S : Sto} (G : FnF Γ X.prog X.w X.K X.mg X.base k f F) (hr : Room k X.A) (pz : Pz X W) (I : Inv X pins σ' H s)
    (r : Vals vs us) (vr : VRs Γ μ H ds vs) (m : MR Γ μ S H) (sat : (F ds S).Sat (KD Γ μ H Q) (KE Γ W X.N.length μ H)) : wpAny (model X.prog X.w) X.A (call (.ref f) us) (EP X pins σ' Q) X.xe s :=
  wpAny_call (run_F G hr pz I r vr m sat)
theorem s_call {x : Str} {p pos : Pos} {e : Expr} {es : List Expr} {g : FA} (G : FnF Γ X.prog X.w X.K X.mg X.base k f F) (hr : Room k X.A) (pz : Pz X W) (hg : Gl X x) (hm : X.mg x = some (.ref f)) (hk : PySem.W.keepIn X.K (.ref f) = true) (ha : SA Γ X W (e :: es) g)
    (hdb : (x == ("__debug__" : Str)) = false := by decide) (he : starEach (e :: es) X.env = (false, eval e X.env) :: starEach es X.env := by rfl) (hpl : (backTo pos (starEach es X.env)).any (·.1) = false := by rfl) :
    SE Γ X W (.Call (.Name x p) (e :: es) [] pos) (eCall F g) := by
  refine ⟨fun pins s σ' H Q I h => ?_⟩
  obtain ⟨μ, σ, S, a, h⟩ := h
  refine wpAny_Call_Name_kw (ld_glob I hg hm ?_ hdb)
  refine PySem.W.callWith_K (h₀ := X.base) I.ok.mod.kin hk (thn (ha.run pos pins s σ' H (fun vs H1 => ∃ μ1 ds S1, Step μ H μ1 H1 ∧ MR Γ μ1 S1 H1 ∧ VRs Γ μ1 H1 ds vs ∧ (F ds S1).Sat (KD Γ μ H Q) (KE Γ W X.N.length μ H)) I (tav_of a h.of_bind fun ds S1 μ1 vs H1 h1 s1 a1 r1 => ⟨μ1, ds, S1, s1, a1.mr, r1, h1⟩)) fun us s1 q => ?_) he hpl
  obtain ⟨vs, H1, I1, r, μ1, ds, S1, st, m1, vr, sat⟩ := q
  exact ⟨I1.kIn, run_Fw G hr pz I1 r vr m1 (Sat.later st sat)⟩
theorem s_call0 {x : Str} {p pos : Pos} (G : FnF Γ X.prog X.w X.K X.mg X.base k f F) (hr : Room k X.A) (pz : Pz X W) (hg : Gl X x) (hm : X.mg x = some (.ref f)) (hk : PySem.W.keepIn X.K (.ref f) = true)
    (hdb : (x == ("__debug__" : Str)) = false := by decide) : SE Γ X W (.Call (.Name x p) [] [] pos) (eCall F aNil) := by
  refine ⟨fun pins s σ' H Q I h => ?_⟩
  obtain ⟨μ, σ, S, a, h⟩ := h
  refine wpAny_Call_Name_kw (ld_glob I hg hm ?_ hdb)
  exact PySem.W.callWith_K0 I.kIn hk (run_Fw (us := []) G hr pz I .nil .nil a.mr h)
end
/-! ### a def's body -/
def startD (n : Nat) (ds : List D) : Sg := ds.map some ++ List.replicate (n - ds.length) none
def endD (r : Res Out) : Res D := r.bind fun o S => match o with
  | .rt d => .ok d S
  | .nx _ => .ok .non S
  | _ => .no
def runB (n m : Nat) (g : FS) : Fd := fun ds S => if ds.length = m then endD (g (startD n ds) S) else .no
section
variable {Γ : Nat → Addr} {P : Program} {w : World} {K : PySem.W.Frag} {mg : Str → Option Value} {base : Heap}
theorem at_start {μ : Mp} {H : Hp} {S : Sto} {N : List Str} {ds : List D} {vs : List V} (m : MR Γ μ S H) (r : VRs Γ μ H ds vs) (hl : ds.length ≤ N.length) : At Γ N.length μ H (startD N.length ds) S (L2.start N vs) := by
  have e := r.length
  refine ⟨⟨?_, ?_, fun i d h => ?_⟩, m⟩
  · unfold startD L2.start
    simp [e]
  · unfold L2.start
    simp
    omega
  · unfold startD at h
    unfold L2.start
    by_cases hi : i < ds.length
    · rw [List.getElem?_append_left (by simpa using hi), List.getElem?_map] at h
      obtain ⟨v, ev, rv⟩ := r.get (i := i) (d := d) (by
        cases q : ds[i]? with
        | none => rw [q] at h; cases h
        | some y => rw [q] at h; cases h; rfl)
      refine ⟨v, ?_, rv⟩
      rw [List.getElem?_append_left (by simp; omega), List.getElem?_map, ev]
      rfl
    · rw [List.getElem?_append_right (by simp; omega)] at h
      exfalso
      have := List.mem_of_getElem? h
      simp at this
/-- THE RULE for a def: its body as an evaluation -/
theorem fn_body {x qual : Str} {st : Stmt} {f : Addr} {fd : FuncData} {N ps : List Str} {k : Nat} {g : FS} (F : Fun K x qual st f fd) (Sc : FnScope N ps (defScope st)) (hb : Binds K fd ps []) (hN : ps.length ≤ N.length)
    (body : ∀ (cdv : Value) (A : Around) (outer : List Env) (s : Shared) (H : Hp) (E : XK), Room k (A.deeper (envOfC qual (defScope st) s.heap.objs.size f cdv)) →
      SB Γ (cxOf (L2.CX P w) P w K mg base N qual (defScope st) f cdv A outer s H E) (fun cls d _ H => E cls d H) (defBody st) g) :
    FnF Γ P w K mg base (k + 1) f (runB N.length ps.length g) := by
  have G : FnOk P w K mg base (L2.CX P w) (k + 1) f fd ps (spF Γ (runB N.length ps.length g)) := by
    refine F.okX Sc (fun vs H Q E h => ?_) (fun cdv A outer s H vs Q E hr h => ?_)
    · obtain ⟨μ, ds, S, r, m, sat⟩ := h
      unfold runB at sat
      split at sat
      · rename_i hl
        rw [← r.length]
        exact hl
      · exact sat.elim
    · obtain ⟨μ, ds, S, r, m, sat⟩ := h
      unfold runB at sat
      split at sat
      · rename_i hl
        refine ⟨_, body cdv A outer s H E hr, ?_⟩
        refine ⟨μ, startD N.length ds, S, (at_start (N := N) m r (by omega) : At Γ N.length μ H (startD N.length ds) S (L2.start N vs)), ?_⟩
        unfold endD at sat
        refine sat.of_bind.mono (fun o S1 q => ?_) fun x S1 q => ?_
        · cases o with
          | rt d => exact q
          | nx σ => exact fun μ' σ' H' s' a' => q μ' _ H' s' a'.mr .non
          | bk σ => exact q.elim
          | ct σ => exact q.elim
        · exact fun μ' H' cls d σ1 s' m' xr _ => q μ' H' cls d s' m' xr
      · exact sat.elim
  intro A outer s H us vs Q E hr e0 r hsp
  have hl : us.length = ps.length := by rw [← r.length]; exact G.len _ _ _ _ hsp
  have b := hb s us (e0.mod.kin.keeps fun b o e => (e0.bs b o e).1) (by rw [List.append_nil]; exact hl)
  rw [List.append_nil] at b
  exact G.run A outer s H ⟨us, []⟩ us vs Q E hr e0 b r hsp
/-- another saying of the same -/
theorem FnF.eq {k : Nat} {f : Addr} {F F' : Fd} (h : FnF Γ P w K mg base k f F) (e : ∀ ds S, F ds S = F' ds S) : FnF Γ P w K mg base k f F' := by
  have : F = F' := funext fun ds => funext fun S => e ds S
  rw [← this]
  exact h
theorem FnF.mono {j k : Nat} {f : Addr} {F : Fd} (h : FnF Γ P w K mg base j f F) (hk : j ≤ k) : FnF Γ P w K mg base k f F := FnR.mono h hk
end
end Ev
namespace Ev
open PySem PySem.Spec PyProof.Rows L2
section
variable {Γ : Nat → Addr} {W : WX} {X : Cx} {k : Nat} {f : Addr} {F : Fd}
/-- a def runs, one step within -/
theorem run_A {A : Around} {pins : List (Addr × Obj)} {σ' : L2.St} {H : Hp} {s : Shared} {Q : VK} {us : List Value} {vs : List V} {μ : Mp} {ds : List D} {S : Sto} (G : FnF Γ X.prog X.w X.K X.mg X.base k f F) (hr : Room k A) (e0 : Env0 X.prog X.w X.K X.mg X.base A X.stack s H) (pz : Pz X W) (I : Inv X pins σ' H s)
    (r : Vals vs us) (vr : VRs Γ μ H ds vs) (m : MR Γ μ S H) (sat : (F ds S).Sat (KD Γ μ H Q) (KE Γ W X.N.length μ H)) : wpAny (model X.prog X.w) A (call (.ref f) us) (EP X pins σ' Q) X.xe s := by
  refine wpAny_call (codeAny_mono (G A X.stack s H us vs Q (WE W σ') hr e0 r ⟨μ, ds, S, vr, m, sat.mono (fun _ _ z => z) fun x S' kx μ' H' cls d st m' xr => kx μ' H' cls d σ' st m' xr I.len⟩) fun r s' hq => ?_)
  cases r with
  | error e => exact pz σ' pins H s e s' I hq
  | ok fl =>
    cases fl with
    | ret u => exact I.after hq
    | next => exact False.elim hq
    | brk => exact False.elim hq
    | cont => exact False.elim hq
end
/-! ### instances -/
def insOf (d : D) (S : Sto) : Option (Nat × List (Str × D)) := match d with
  | .obj c fs => some (c, fs)
  | .loc n => match S[n]? with
    | some (.ins c fs) => some (c, fs)
    | _ => none
  | _ => none
section
variable {Γ : Nat → Addr} {W : WX} {X : Cx} {k : Nat} {F : Fd} {μ : Mp} {H : Hp} {S : Sto} {pos apos p : Pos} {e o : Expr} {es : List Expr} {f g h : F1} {ga : FA} {x m : Str} {c : Nat} {fa : Addr}
theorem insOf_at (mr : MR Γ μ S H) {d : D} {v : V} (r : VR Γ μ H d v) {fs : List (Str × D)} (h : insOf d S = some (c, fs)) : ∃ q dx vs, v = .ref q ∧ H q = some (.ins (Γ c) dx vs) ∧ FRs Γ μ H fs vs := by
  unfold insOf at h
  split at h
  · cases h
    cases r with
    | obj n e rs => exact ⟨_, _, _, rfl, e, rs⟩
  · split at h
    · rename_i e
      cases h
      obtain ⟨q, rfl, hq, oo⟩ := cell_at mr r e
      cases oo with
      | ins e rs => exact ⟨q, _, _, rfl, e, rs⟩
    · cases h
  · cases h
/-- e.x, an attribute of instances of the class c -/
def opFld (c : Nat) (x : Str) : Op1 := fun d S => match insOf d S with
  | some (c', fs) => if c' = c then match fs.lookup x with
      | some v => .ok v S
      | none => .no
    else .no
  | none => .no
theorem s_fld (hcl : Cls X.K (Γ c)) (hna : NoAttr X.K (Γ c) x) (he : SE Γ X W e f) (hb : attributeBase e x X.env (eval e X.env) = eval e X.env := by rfl) : SE Γ X W (.Attribute e x pos) (eUn (opFld c x) f) := by
  refine PE.imp (pe_fld he hb) fun σ' H Q q => un_rd (r := fun z H1 Q => ∃ a C dx fs v, z = .ref a ∧ H1 a = some (.ins C dx fs) ∧ Cls X.K C ∧ NoAttr X.K C x ∧ fs.lookup x = some v ∧ Q v H1) q fun H2 x' μ d S n r m sat => ?_
  unfold opFld at sat
  split at sat
  · rename_i c' fs ei
    split at sat
    · rename_i hc
      subst hc
      split at sat
      · rename_i v ev
        obtain ⟨q, dx, vs, rfl, hq, rs⟩ := insOf_at m r ei
        obtain ⟨w, ew, rw'⟩ := rs.lookup ev
        exact ⟨q, _, dx, vs, w, rfl, hq, hcl, hna, ew, KD.here sat m rw'⟩
      · exact sat.elim
    · exact sat.elim
  · exact sat.elim
/-- e.x = v -/
def opFldSet (c : Nat) (x : Str) (o v : D) (S : Sto) : Option Sto := match o with
  | .loc n => match S[n]? with
    | some (.ins c' fs) => if c' = c then if fs.length < 1000 then some (S.set n (.ins c (putFd x v fs))) else none else none
    | _ => none
  | _ => none
def sFldSet (c : Nat) (x : Str) (fv fo : F1) : FS := fun σ S => (fv σ S).bind fun v S1 => (fo σ S1).bind fun o S2 => match opFldSet c x o v S2 with
  | some S3 => .ok (.nx σ) S3
  | none => .no
theorem s_fldset {pos' : Pos} (hcl : Cls X.K (Γ c)) (hna : NoAttr X.K (Γ c) x) (ho : SE Γ X W o g) (hv : SE Γ X W e f) (hs : swapsWith e (some (.Attribute o x pos')) pos.line X.env = pure false := by rfl) : SS Γ X W (.Assign [.Attribute o x pos'] e pos) (sFldSet c x f g) := by
  refine PS.imp (ps_fld ho hv hs) fun E σ' H q => ?_
  obtain ⟨μ, σ, S, a, q⟩ := q
  refine tev_of a q.of_bind fun d S1 μ1 v1 H1 q1 s1 a1 r1 => ?_
  refine tev_of a1 (q1.of_bind.mono (fun _ _ z => z) fun _ _ => KE.mono s1) fun y S2 μ2 v2 H2 q2 s2 a2 r2 => ?_
  split at q2
  · rename_i S3 e3
    unfold opFldSet at e3
    split at e3
    · rename_i n
      split at e3
      · rename_i c' fs ei
        split at e3
        · rename_i hc
          subst hc
          split at e3
          · rename_i hl
            cases e3
            obtain ⟨q, rfl, hq, oo⟩ := cell_at a2.mr r2 ei
            cases oo with
            | ins eh rs =>
              have st : ∀ u, Step μ2 H2 μ2 (upd H2 q u) := fun u => step_set a2.mr hq
              exact ⟨q, _, _, _, rfl, eh, hcl, hna, by rw [← rs.length]; exact hl, KS.here (KS.mono ((s1.trans s2).trans (st _)) q2) (a2.mono (st _) (a2.mr.write hq (.ins upd_same ((FRs.put (r1.mono s2) rs).mono (st _)))))⟩
          · cases e3
        · cases e3
      · cases e3
    · cases e3
  · exact q2.elim
/-! ### methods -/
/-- o.m(..): the object first -/
def eMeth (c : Nat) (m : Str) (F : Fd) (f : F1) (g : FA) : F1 := fun σ S => (f σ S).bind fun d S1 => match insOf d S1 with
  | some (c', fs) => if c' = c ∧ fs.lookup m = none then (g σ S1).bind fun ds S2 => F (d :: ds) S2 else .no
  | none => .no
theorem s_meth {pl : Sem Bool} (hcl : Cls X.K (Γ c)) (hm : Meth X.K (Γ c) m fa) (G : FnF Γ X.prog X.w X.K X.mg X.base k fa F) (hr : Room k X.A) (pz : Pz X W) (ho : SE Γ X W o f) (ha : SA Γ X W (e :: es) ga)
    (hst : starEach (e :: es) X.env = (false, eval e X.env) :: starEach es X.env := by rfl) (hpl : (backTo pos (starEach es X.env)).any (·.1) = false := by rfl)
    (ht : eval (.Call (.Attribute o m apos) (e :: es) [] pos) X.env = (do
      let ov ← eval o X.env
      standAt apos.atName
      let (f, first) ← holding [ov] (getMethod ov m pl)
      callWith pos f first (backTo pos (starEach (e :: es) X.env)) (backToKw pos (keywordEach [] X.env))) := by rfl) : SE Γ X W (.Call (.Attribute o m apos) (e :: es) [] pos) (eMeth c m F f ga) := by
  refine ⟨fun pins s σ' H Q I q => ?_⟩
  obtain ⟨μ, σ, S, a, q⟩ := q
  refine PySem.W.methodCall_KW (pl := pl) (thn (ho.run pins s σ' H (fun v1 H1 => ∃ p1 dx vs μ1 d S1, v1 = .ref p1 ∧ H1 p1 = some (.ins (Γ c) dx vs) ∧ vs.lookup m = none ∧ Step μ H μ1 H1 ∧ At Γ X.N.length μ1 H1 σ S1 σ' ∧ VR Γ μ1 H1 d v1 ∧ Res.Sat ((ga σ S1).bind fun ds S2 => F (d :: ds) S2) (KD Γ μ H Q) (KE Γ W X.N.length μ H)) I (tev_of a q.of_bind fun d S1 μ1 v1 H1 q1 s1 a1 r1 => ?_)) fun u s1 hq => ?_) ht
  · split at q1
    · rename_i c' fs ei
      split at q1
      · rename_i hc
        obtain ⟨rfl, hn⟩ := hc
        obtain ⟨p1, dx, vs, rfl, hp, rs⟩ := insOf_at a1.mr r1 ei
        exact ⟨p1, dx, vs, μ1, d, S1, rfl, hp, rs.lookup_none hn, s1, a1, r1, q1⟩
      · exact q1.elim
    · exact q1.elim
  · obtain ⟨v1, H1, I1, rv1, p1, dx, vs, μ1, d, S1, rfl, hp, hn, st1, a1, r1, q1⟩ := hq
    obtain rfl : u = Value.ref p1 := rv1
    refine getmeth_ok I1 hp hcl hm hn ?_
    refine PySem.W.callWith_K (first := [.ref p1]) (h₀ := X.base) I.ok.mod.kin hm.kp (thn (ha.run pos pins s1 σ' H1 (fun ws H2 => ∃ μ2 ds S2, Step μ1 H1 μ2 H2 ∧ MR Γ μ2 S2 H2 ∧ VRs Γ μ2 H2 ds ws ∧ (F (d :: ds) S2).Sat (KD Γ μ H Q) (KE Γ W X.N.length μ H)) I1 (tav_of a1 (q1.of_bind.mono (fun _ _ z => z) fun _ _ => KE.mono st1) fun ds S2 μ2 ws H2 h2 s2 a2 r2 => ⟨μ2, ds, S2, s2, a2.mr, r2, h2⟩)) fun us s3 hq => ?_) hst hpl
    obtain ⟨ws, H2, I3, rw', μ2, ds, S2, st2, m2, vr, sat⟩ := hq
    exact ⟨I3.kIn, run_Fw (us := .ref p1 :: us) (vs := .ref p1 :: ws) G hr pz I3 (.cons rfl rw') (.cons (r1.mono st2) vr) m2 (Sat.later (st1.trans st2) sat)⟩
theorem s_meth0 {pl : Sem Bool} (hcl : Cls X.K (Γ c)) (hm : Meth X.K (Γ c) m fa) (G : FnF Γ X.prog X.w X.K X.mg X.base k fa F) (hr : Room k X.A) (pz : Pz X W) (ho : SE Γ X W o f)
    (ht : eval (.Call (.Attribute o m apos) [] [] pos) X.env = (do
      let ov ← eval o X.env
      standAt apos.atName
      let (f, first) ← holding [ov] (getMethod ov m pl)
      callWith pos f first (backTo pos (starEach [] X.env)) (backToKw pos (keywordEach [] X.env))) := by rfl) : SE Γ X W (.Call (.Attribute o m apos) [] [] pos) (eMeth c m F f aNil) := by
  refine ⟨fun pins s σ' H Q I q => ?_⟩
  obtain ⟨μ, σ, S, a, q⟩ := q
  refine PySem.W.methodCall_KW (pl := pl) (thn (ho.run pins s σ' H (fun v1 H1 => ∃ p1 dx vs μ1 d S1, v1 = .ref p1 ∧ H1 p1 = some (.ins (Γ c) dx vs) ∧ vs.lookup m = none ∧ Step μ H μ1 H1 ∧ At Γ X.N.length μ1 H1 σ S1 σ' ∧ VR Γ μ1 H1 d v1 ∧ (F [d] S1).Sat (KD Γ μ H Q) (KE Γ W X.N.length μ H)) I (tev_of a q.of_bind fun d S1 μ1 v1 H1 q1 s1 a1 r1 => ?_)) fun u s1 hq => ?_) ht
  · split at q1
    · rename_i c' fs ei
      split at q1
      · rename_i hc
        obtain ⟨rfl, hn⟩ := hc
        obtain ⟨p1, dx, vs, rfl, hp, rs⟩ := insOf_at a1.mr r1 ei
        exact ⟨p1, dx, vs, μ1, d, S1, rfl, hp, rs.lookup_none hn, s1, a1, r1, q1⟩
      · exact q1.elim
    · exact q1.elim
  · obtain ⟨v1, H1, I1, rv1, p1, dx, vs, μ1, d, S1, rfl, hp, hn, st1, a1, r1, sat⟩ := hq
    obtain rfl : u = Value.ref p1 := rv1
    refine getmeth_ok I1 hp hcl hm hn ?_
    exact PySem.W.callWith_K0 (first := [.ref p1]) I1.kIn hm.kp (run_Fw (us := [.ref p1]) (vs := [.ref p1]) G hr pz I1 (.cons rfl .nil) (.cons r1 .nil) a1.mr (Sat.later st1 sat))
/-- e.x, a property: nothing may be raised within -/
def eProp (c : Nat) (F : Fd) (f : F1) : F1 := fun σ S => (f σ S).bind fun d S1 => match insOf d S1 with
  | some (c', _) => if c' = c then (F [d] S1).nox else .no
  | none => .no
theorem nox_sat {α : Type} {r : Res α} {Q : α → Sto → Prop} {E E' : XV → Sto → Prop} (h : r.nox.Sat Q E) : r.Sat Q E' := by
  cases r with
  | ok a S => exact h
  | ex _ _ => exact h.elim
  | no => exact h.elim
theorem s_prop {pa : Addr} (hcl : Cls X.K (Γ c)) (hp : PropOf X.K (Γ c) x pa fa) (G : FnF Γ X.prog X.w X.K X.mg X.base k fa F) (hr : Room (k + 1) X.A) (he : SE Γ X W e f) (hab : attributeBase e x X.env (eval e X.env) = eval e X.env := by rfl) : SE Γ X W (.Attribute e x pos) (eProp c F f) := by
  refine ⟨fun pins s σ' H Q I q => ?_⟩
  obtain ⟨μ, σ, S, a, q⟩ := q
  refine attr_of hab (thn (he.run pins s σ' H (fun v1 H1 => ∃ p1 dx vs μ1 d S1, v1 = .ref p1 ∧ H1 p1 = some (.ins (Γ c) dx vs) ∧ Step μ H μ1 H1 ∧ MR Γ μ1 S1 H1 ∧ VR Γ μ1 H1 d v1 ∧ (F [d] S1).Sat (KD Γ μ H Q) (fun _ _ => False)) I (tev_of a q.of_bind fun d S1 μ1 v1 H1 q1 s1 a1 r1 => ?_)) fun u s1 hq => ?_)
  · split at q1
    · rename_i c' fs ei
      split at q1
      · rename_i hc
        subst hc
        obtain ⟨p1, dx, vs, rfl, hp, rs⟩ := insOf_at a1.mr r1 ei
        exact ⟨p1, dx, vs, μ1, d, S1, rfl, hp, s1, a1.mr, r1, nox_sat q1⟩
      · exact q1.elim
    · exact q1.elim
  · obtain ⟨v1, H1, I1, rv1, p1, dx, vs, μ1, d, S1, rfl, ea, st1, m1, r1, sat⟩ := hq
    obtain rfl : u = Value.ref p1 := rv1
    obtain ⟨mA, O, _, _, _, _⟩ := ins_get I1.hok ea
    obtain ⟨od, J, _⟩ := O.look
    obtain ⟨rest, hrec⟩ := hp.rec_
    have I2 := I1.tok (s1.toks + 1)
    have hc : (PySem.W.clsIn X.K (Γ c)).isSome = true := by
      obtain ⟨cd, hc, _⟩ := PySem.W.any_some hcl.hd
      rw [hc]
      rfl
    refine PySem.W.get_bind I1.kIn J (PySem.W.plainGet_of (hcl.get x)).1 (PySem.W.findObj_data hc hp.at_ hp.get hp.tak) (PySem.W.plainGet_of (hcl.get x)).2 (wpAny_call (PySem.W.prop_get (s := { s1 with toks := s1.toks + 1 }) I1.kIn hrec ?_))
    refine codeAny_mono (G X.A.in1 X.stack { s1 with toks := s1.toks + 1 } H1 [.ref p1] [.ref p1] Q (fun _ _ _ => False) hr.in1 I2.env0.in1 (.cons rfl .nil) ⟨μ1, [d], S1, .cons r1 .nil, m1, sat.mono (fun _ _ z => KD.mono st1 z) fun _ _ z => z.elim⟩) fun r s' hq => ?_
    cases r with
    | error er =>
      obtain ⟨_, _, _, _, _, _, _, _, _, _, _, _, z⟩ := hq
      exact z.elim
    | ok fl =>
      cases fl with
      | ret u =>
        obtain ⟨v, H', I3, rv, q3⟩ := I2.after hq
        show wpAny _ _ (handedOut u) _ _ _
        rw [PySem.W.handedOut_of (handed_of rv)]
        exact wpAny_pure ⟨v, H', I3, rv, q3⟩
      | next => exact False.elim hq
      | brk => exact False.elim hq
      | cont => exact False.elim hq
/-! ### own operators -/
/-- -a -/
def opOwn1 (c : Nat) (F : Fd) : Op1 := fun d S => match insOf d S with
  | some (c', _) => if c' = c then F [d] S else .no
  | none => .no
theorem ok_ownNeg (hs : PySem.W.findIn X.K (.ref (Γ c)) "__neg__" = some (some (.ref fa))) (hf : PySem.W.isFn X.K (.ref fa) = true) (G : FnF Γ X.prog X.w X.K X.mg X.base k fa F) (hr : Room k X.A) (pz : Pz X W) : OkUn Γ X W (unaryOp .USub) (opOwn1 c F) := by
  intro pins s σ' H x' v Q μ x S I rx vx m sat
  unfold opOwn1 at sat
  split at sat
  · rename_i c' fs ei
    split at sat
    · rename_i hc
      subst hc
      obtain ⟨p1, dx, vs, rfl, hp, rs⟩ := insOf_at m vx ei
      obtain rfl : v = Value.ref p1 := rx
      obtain ⟨mA, O, _⟩ := ins_get I.hok hp
      obtain ⟨od, J, _⟩ := O.look
      obtain ⟨_, hF⟩ := I.fr
      exact PySem.W.ksp_neg hF I.ok.mod.kin J hs hf (run_Fw (us := [.ref p1]) (vs := [.ref p1]) G hr pz I (.cons rfl .nil) (.cons vx .nil) m sat)
    · exact sat.elim
  · exact sat.elim
/-- a op b, both of the class c -/
def opOwn2 (c : Nat) (F : Fd) : Op2 := fun d e S => match insOf d S, insOf e S with
  | some (c1, _), some (c2, _) => if c1 = c ∧ c2 = c then F [d, e] S else .no
  | _, _ => .no
theorem relV_ni {z : V} (r : RelV z Value.notImplemented) : False := by
  cases z <;> first | (obtain ⟨_, r⟩ := r; cases r; done) | (cases r; done)
theorem cmpBack_of {pins : List (Addr × Obj)} {σ' : L2.St} {Q' : VK} {E : Value → Shared → Prop} {A : Around} {t : Sem Value} {s : Shared} (h : wpAny (model X.prog X.w) A t (EP X pins σ' Q') E s) : wpAny (model X.prog X.w) A t (PySem.W.CmpBack (EP X pins σ' Q')) E s := by
  refine wpAny_mono h (fun v s' q => ?_) fun _ _ z => z
  cases v <;> first | exact q | (obtain ⟨z, _, _, r, _⟩ := q; exact (relV_ni r).elim)
theorem ok_own2 {op : Operator} (hc : PySem.W.selfFirst X.K (Γ c) = true) (hs : PySem.W.findIn X.K (.ref (Γ c)) (PySem.dunder op.info.2) = some (some (.ref fa))) (hf : PySem.W.isFn X.K (.ref fa) = true) (G : FnF Γ X.prog X.w X.K X.mg X.base k fa F) (hr : Room k X.A) (pz : Pz X W) :
    OkOp Γ X W (binaryOp op) (opOwn2 c F) := by
  intro pins s σ' H x' y' v u Q μ x y S I rx ry vx vy m sat
  unfold opOwn2 at sat
  split at sat
  · rename_i c1 fs1 c2 fs2 e1 e2
    split at sat
    · rename_i hcc
      obtain ⟨rfl, rfl⟩ := hcc
      obtain ⟨p1, dx, vs, rfl, hp, rs⟩ := insOf_at m vx e1
      obtain ⟨p2, dx2, vs2, rfl, hp2, rs2⟩ := insOf_at m vy e2
      obtain rfl : v = Value.ref p1 := rx
      obtain rfl : u = Value.ref p2 := ry
      obtain ⟨mA, O, _⟩ := ins_get I.hok hp
      obtain ⟨od, J, _⟩ := O.look
      obtain ⟨mB, O2, _⟩ := ins_get I.hok hp2
      obtain ⟨od2, J2, _⟩ := O2.look
      obtain ⟨_, hF⟩ := I.fr
      exact PySem.W.binop_K hF I.ok.mod.kin J J2.type hc hs hf (cmpBack_of (run_Fw (us := [.ref p1, .ref p2]) (vs := [.ref p1, .ref p2]) G hr pz I (.cons rfl (.cons rfl .nil)) (.cons vx (.cons vy .nil)) m sat))
    · exact sat.elim
  · exact sat.elim
end
end Ev
namespace Ev
open PySem PySem.Spec PyProof.Rows L2
/-! ### x != y by an own __eq__ -/
section
variable {prog : Program} {w : World} {A : Around} {E : Value → Shared → Prop} {s : Shared} {K : PySem.W.Frag} {x y C L f : Addr} {h₀ : Heap} {m : Str → Option Value} {ox : Obj} {od : Option Obj}
theorem objNe_own (hu : A.units < cLine) (X : K.In s.heap) (I : PySem.W.InstAt s.heap x ox C od) (hs : PySem.W.findIn K (.ref C) "__eq__" = some (some (.ref f))) (hf : PySem.W.isFn K (.ref f) = true) {Q : Fin → Shared → Prop}
    (hcall : wpAny (model prog w) A (call (.ref f) [.ref x, .ref y]) (fun v s' => ∃ b, v = .bool b ∧ Q (.done (.ret (.bool (!b)))) s') E s) :
    wpAny (model prog w) A (Builtin.«object.__ne__» ⟨[.ref x, .ref y], []⟩) Q E s := by
  unfold Builtin.«object.__ne__»
  repeat (first
    | with_reducible refine wpAny_cRoomFor hu ?_
    | (refine wpAny_bind (m := callSpecialIfBound? (.ref x) (Str.ofString "__eq__") [.ref y])
        (PySem.W.ifBound_K X I hs hf (wpAny_mono hcall (fun r s' hr => by
          obtain ⟨b, rfl, hq⟩ := hr
          repeat (first | exact hq | exact wpAny_pure hq | exact wpAny_truthy_bool hq | (refine wpAny_bind (m := truthy (.bool _)) (wpAny_truthy_bool ?_)) | wp_step)) fun _ _ e => e)))
    | wp_step)
theorem boundB {name : Str} {id : String} {args : List Value} {Q : Option Value → Shared → Prop} (X : K.In s.heap) (I : PySem.W.InstAt s.heap x ox C od) (hs : PySem.W.findIn K (.ref C) name = some (some (.builtin id))) (S : Slot "object" name id)
    (hcall : wpAny (model prog w) A (call (.builtin id) (.ref x :: args)) (fun v => Q (some v)) E s) : wpAny (model prog w) A (callSpecialIfBound? (.ref x) name args) Q E s := by
  simp only [callSpecialIfBound?, bindSpecialIfBound?]
  refine wpAny_holding (wpAny_bind (wpAny_bind (wpAny_bind (I.type.here ((PySem.W.looks_findIn X hs).here ?_)))))
  simp only [S.bind]
  refine wpAny_bind (wpAny_askSetting (wpAny_ite ?_))
  have fin : wpAny (model prog w) A (call (.builtin id) ([.ref x] ++ args) >>= fun v => pure (some v)) Q E s :=
    wpAny_bind (wpAny_mono hcall (fun v s' h' => wpAny_pure h') fun _ _ h' => h')
  split
  · exact wpAny_bind (wpAny_pure (wpAny_pure fin))
  · exact wpAny_tryCatch (wpAny_bind (wpAny_pure (wpAny_pure fin)))
theorem check_slot {id owner n : String} {rest : List Value} {Q : Unit → Shared → Prop} (hk : builtinKind id = some .slot) (hs : splitId id = some (owner, n)) (ha : argsOk id ⟨.ref x :: rest, []⟩) (X : K.In s.heap) (I : PySem.W.InstAt s.heap x ox C od)
    (hob : PySem.W.subIn K (.ref C) (.type owner) = some true) (hq : Q () s) : wpAny (model prog w) A (checkBuiltinCall id ⟨.ref x :: rest, []⟩) Q E s := by
  simp only [checkBuiltinCall, hk, hs]
  refine wpAny_bind ?_
  unfold isInstance
  refine wpAny_bind (I.type.here ((PySem.W.looks_subIn X hob).here ?_))
  cases hsig : Manifest.signature? id with
  | none => exact wpAny_pure hq
  | some sig =>
    simp only [argsOk, hsig] at ha
    have h2 : Bind.checkArgs id sig ⟨.ref x :: rest, []⟩ = pure () := ha
    show wpAny _ A (Bind.checkArgs id sig ⟨.ref x :: rest, []⟩) Q E _
    rw [h2]; exact wpAny_pure hq
theorem ne_own (hu : A.units + 1 < cLine) (X : K.In s.heap) (I : PySem.W.InstAt s.heap x ox C od) (hb : PySem.W.Looks (model prog w) s.heap (typeOf (.ref y)) (.ref C)) (hn : PySem.W.findIn K (.ref C) "__ne__" = some (some (.builtin "object.__ne__"))) (ho : PySem.W.subIn K (.ref C) (.type "object") = some true)
    (hs : PySem.W.findIn K (.ref C) "__eq__" = some (some (.ref f))) (hf : PySem.W.isFn K (.ref f) = true) {Q : Value → Shared → Prop}
    (hcall : wpAny (model prog w) A.in1 (call (.ref f) [.ref x, .ref y]) (fun v s' => ∃ b, v = .bool b ∧ Q (.bool (!b)) s') E s) : wpAny (model prog w) A (compareOp .NotEq (.ref x) (.ref y)) Q E s := by
  show wpAny _ _ (richCompare .NotEq (.ref x) (.ref y)) _ _ _
  unfold richCompare
  simp only [oneThing_ref]
  refine wpAny_holding (wpAny_bind (wpAny_cRoomFor (Nat.lt_of_succ_lt hu) ?_))
  rw [cmpInfo_NotEq]
  dsimp only
  refine wpAny_bind (I.type.here (wpAny_bind (hb.here ?_)))
  rw [show (Value.ref C != Value.ref C) = false from by simp]
  simp only [Bool.false_eq_true, if_false]
  refine wpAny_bind (wpAny_pure ?_)
  simp only [Bool.false_eq_true, if_false]
  refine wpAny_bind (m := tryCompare (.ref x) "__ne__" (.ref y)) ?_
  simp only [tryCompare]
  refine wpAny_bind (boundB X I hn F.cmp_object.ne (wpAny_call (codeAny_call_builtin F.cmp_object.ne.plain F.cmpEntry_ne (check_slot F.cmpKind_ne F.cmpSplit_ne (F.cmpArgs_ne _ _) X I ho (objNe_own (A := A.in1) hu X I hs hf (wpAny_mono hcall (fun v s' hv => ?_) fun _ _ e => e))))))
  obtain ⟨b, rfl, hq⟩ := hv
  first | exact ⟨b, rfl, wpAny_pure hq⟩ | exact ⟨b, rfl, wpAny_pure (wpAny_pure hq)⟩ | exact ⟨b, rfl, wpAny_pure (wpAny_pure (wpAny_pure hq))⟩ | exact ⟨b, rfl, hq⟩
end
section
variable {Γ : Nat → Addr} {W : WX} {X : Cx} {k : Nat} {F : Fd} {μ : Mp} {H : Hp} {S : Sto} {pos apos p : Pos} {e o : Expr} {es : List Expr} {f g h : F1} {ga : FA} {x m : Str} {c : Nat} {fa : Addr}
theorem ok_ownEq (hu : X.A.units < cLine) (hn : PySem.W.notFirst X.K (Γ c) (.ref (Γ c)) = true) (hs : PySem.W.findIn X.K (.ref (Γ c)) "__eq__" = some (some (.ref fa))) (hf : PySem.W.isFn X.K (.ref fa) = true) (G : FnF Γ X.prog X.w X.K X.mg X.base k fa F) (hr : Room k X.A) (pz : Pz X W) :
    OkOp Γ X W (compareOp .Eq) (opOwn2 c F) := by
  intro pins s σ' H x' y' v u Q μ x y S I rx ry vx vy m sat
  unfold opOwn2 at sat
  split at sat
  · rename_i c1 fs1 c2 fs2 e1 e2
    split at sat
    · rename_i hcc
      obtain ⟨rfl, rfl⟩ := hcc
      obtain ⟨p1, dx, vs, rfl, hp, rs⟩ := insOf_at m vx e1
      obtain ⟨p2, dx2, vs2, rfl, hp2, rs2⟩ := insOf_at m vy e2
      obtain rfl : v = Value.ref p1 := rx
      obtain rfl : u = Value.ref p2 := ry
      obtain ⟨mA, O, _⟩ := ins_get I.hok hp
      obtain ⟨od, J, _⟩ := O.look
      obtain ⟨mB, O2, _⟩ := ins_get I.hok hp2
      obtain ⟨od2, J2, _⟩ := O2.look
      obtain ⟨_, hF⟩ := I.fr
      show wpAny _ _ (richCompare .Eq (.ref p1) (.ref p2)) _ _ _
      exact PySem.W.cmp_K (op := .Eq) (tb := .ref (Γ _)) hu hF I.ok.mod.kin J J2.type hn hs hf (cmpBack_of (run_Fw (us := [.ref p1, .ref p2]) (vs := [.ref p1, .ref p2]) G hr pz I (.cons rfl (.cons rfl .nil)) (.cons vx (.cons vy .nil)) m sat))
    · exact sat.elim
  · exact sat.elim
/-- x != y by an own __eq__ -/
def opOwnNe (c : Nat) (F : Fd) : Op2 := fun d e S => match insOf d S, insOf e S with
  | some (c1, _), some (c2, _) => if c1 = c ∧ c2 = c then (F [d, e] S).bind fun r S1 => match r with
    | .bl b => .ok (.bl (!b)) S1
    | _ => .no else .no
  | _, _ => .no
theorem ok_ownNe (hu : X.A.units + 1 < cLine) (hne : PySem.W.findIn X.K (.ref (Γ c)) "__ne__" = some (some (.builtin "object.__ne__"))) (ho : PySem.W.subIn X.K (.ref (Γ c)) (.type "object") = some true) (hs : PySem.W.findIn X.K (.ref (Γ c)) "__eq__" = some (some (.ref fa)))
    (hf : PySem.W.isFn X.K (.ref fa) = true) (G : FnF Γ X.prog X.w X.K X.mg X.base k fa F) (hr : Room (k + 1) X.A) (pz : Pz X W) : OkOp Γ X W (compareOp .NotEq) (opOwnNe c F) := by
  intro pins s σ' H x' y' v u Q μ x y S I rx ry vx vy m sat
  unfold opOwnNe at sat
  split at sat
  · rename_i c1 fs1 c2 fs2 e1 e2
    split at sat
    · rename_i hcc
      obtain ⟨rfl, rfl⟩ := hcc
      obtain ⟨p1, dx, vs, rfl, hp, rs⟩ := insOf_at m vx e1
      obtain ⟨p2, dx2, vs2, rfl, hp2, rs2⟩ := insOf_at m vy e2
      obtain rfl : v = Value.ref p1 := rx
      obtain rfl : u = Value.ref p2 := ry
      obtain ⟨mA, O, _⟩ := ins_get I.hok hp
      obtain ⟨od, J, _⟩ := O.look
      obtain ⟨mB, O2, _⟩ := ins_get I.hok hp2
      obtain ⟨od2, J2, _⟩ := O2.look
      refine ne_own hu I.kIn J J2.type hne ho hs hf (thn (run_A (us := [.ref p1, .ref p2]) (vs := [.ref p1, .ref p2]) (Q := fun v H' => ∃ b, v = .bl b ∧ Q (.bl (!b)) H') G hr.in1 I.env0.in1 pz I (.cons rfl (.cons rfl .nil)) (.cons vx (.cons vy .nil)) m ?_) ?_)
      · refine sat.of_bind.mono (fun r S1 q => ?_) fun _ _ z => z
        split at q
        · rename_i b
          intro μ' v' H' st mr' rv
          cases rv with
          | bl => exact ⟨b, rfl, q μ' _ H' st mr' (.bl _)⟩
        · exact q.elim
      · rintro v s' ⟨z, H', I', rz, b, rfl, q⟩
        obtain rfl : v = Value.bool b := rz
        exact ⟨b, rfl, .bl (!b), H', I', rfl, q⟩
    · exact sat.elim
  · exact sat.elim
/-! ### x in y by an own __contains__ -/
def opOwnIn (neg : Bool) (c : Nat) (F : Fd) : Op2 := fun x y S => match insOf y S with
  | some (c1, _) => if c1 = c then (F [y, x] S).bind fun r S1 => match r with
    | .bl b => .ok (.bl (b ^^ neg)) S1
    | _ => .no else .no
  | _ => .no
theorem ok_ownIn (hs : PySem.W.findIn X.K (.ref (Γ c)) "__contains__" = some (some (.ref fa))) (hf : PySem.W.isFn X.K (.ref fa) = true) (G : FnF Γ X.prog X.w X.K X.mg X.base k fa F) (hr : Room k X.A) (pz : Pz X W) : OkOp Γ X W (compareOp .In) (opOwnIn false c F) := by
  intro pins s σ' H x' y' v u Q μ x y S I rx ry vx vy m sat
  unfold opOwnIn at sat
  split at sat
  · rename_i c2 fs2 e2
    split at sat
    · rename_i hcc
      subst hcc
      obtain ⟨p2, dx2, vs2, rfl, hp2, rs2⟩ := insOf_at m vy e2
      obtain rfl : u = Value.ref p2 := ry
      obtain ⟨mB, O2, _⟩ := ins_get I.hok hp2
      obtain ⟨od2, J2, _⟩ := O2.look
      obtain ⟨_, hF⟩ := I.fr
      refine PySem.W.in_K hF I.ok.mod.kin J2 hs hf (thn (run_Fw (us := [.ref p2, v]) (vs := [.ref p2, x']) (Q := fun v H' => ∃ b, v = .bl b ∧ Q (.bl b) H') G hr pz I (.cons rfl (.cons rx .nil)) (.cons vy (.cons vx .nil)) m ?_) ?_)
      · refine sat.of_bind.mono (fun r S1 q => ?_) fun _ _ z => z
        split at q
        · rename_i b
          intro μ' v' H' st mr' rv
          cases rv with
          | bl => exact ⟨b, rfl, by simpa using q μ' _ H' st mr' (.bl _)⟩
        · exact q.elim
      · rintro v s' ⟨z, H', I', rz, b, rfl, q⟩
        obtain rfl : v = Value.bool b := rz
        exact wpAny_truthy_bool ⟨.bl b, H', I', rfl, q⟩
    · exact sat.elim
  · exact sat.elim
theorem ok_ownNotIn (hs : PySem.W.findIn X.K (.ref (Γ c)) "__contains__" = some (some (.ref fa))) (hf : PySem.W.isFn X.K (.ref fa) = true) (G : FnF Γ X.prog X.w X.K X.mg X.base k fa F) (hr : Room k X.A) (pz : Pz X W) : OkOp Γ X W (compareOp .NotIn) (opOwnIn true c F) := by
  intro pins s σ' H x' y' v u Q μ x y S I rx ry vx vy m sat
  unfold opOwnIn at sat
  split at sat
  · rename_i c2 fs2 e2
    split at sat
    · rename_i hcc
      subst hcc
      obtain ⟨p2, dx2, vs2, rfl, hp2, rs2⟩ := insOf_at m vy e2
      obtain rfl : u = Value.ref p2 := ry
      obtain ⟨mB, O2, _⟩ := ins_get I.hok hp2
      obtain ⟨od2, J2, _⟩ := O2.look
      obtain ⟨_, hF⟩ := I.fr
      refine PySem.W.notIn_K hF I.ok.mod.kin J2 hs hf (thn (run_Fw (us := [.ref p2, v]) (vs := [.ref p2, x']) (Q := fun v H' => ∃ b, v = .bl b ∧ Q (.bl (!b)) H') G hr pz I (.cons rfl (.cons rx .nil)) (.cons vy (.cons vx .nil)) m ?_) ?_)
      · refine sat.of_bind.mono (fun r S1 q => ?_) fun _ _ z => z
        split at q
        · rename_i b
          intro μ' v' H' st mr' rv
          cases rv with
          | bl => exact ⟨b, rfl, by simpa using q μ' _ H' st mr' (.bl _)⟩
        · exact q.elim
      · rintro v s' ⟨z, H', I', rz, b, rfl, q⟩
        obtain rfl : v = Value.bool b := rz
        exact wpAny_truthy_bool ⟨.bl (!b), H', I', rfl, q⟩
    · exact sat.elim
  · exact sat.elim
/-! ### y[e] by an own __getitem__ -/
def opOwnGet (c : Nat) (F : Fd) : Op2 := fun y x S => match insOf y S with
  | some (c1, _) => if c1 = c then F [y, x] S else .no
  | _ => .no
theorem s_ownGet {a b : Expr} (hs : PySem.W.findIn X.K (.ref (Γ c)) "__getitem__" = some (some (.ref fa))) (hfi : PySem.W.fnIn X.K fa = true) (hf : PySem.W.isFn X.K (.ref fa) = true) (G : FnF Γ X.prog X.w X.K X.mg X.base k fa F) (hr : Room (k + 1) X.A) (pz : Pz X W) (ha : SE Γ X W a f) (hb : SE Γ X W b g)
    (hsl : ∀ p i, subscripted b true (.ref p) i = runValue (.builtin "lifetime.subscript" ⟨[.ref p, i], []⟩) := by intro _ _; with_unfolding_all rfl) : SE Γ X W (.Subscript a b pos) (eBin (opOwnGet c F) f g) := by
  refine ⟨fun pins s σ' H Q I q => ?_⟩
  obtain ⟨μ, σ, S, a0, q⟩ := q
  refine Subscript_ (thn (ha.run pins s σ' H (fun v1 H1 => ∃ μ1 d S1, Step μ H μ1 H1 ∧ At Γ X.N.length μ1 H1 σ S1 σ' ∧ VR Γ μ1 H1 d v1 ∧ Res.Sat ((g σ S1).bind fun y S2 => opOwnGet c F d y S2) (KD Γ μ H Q) (KE Γ W X.N.length μ H)) I (tev_of a0 q.of_bind fun d S1 μ1 v1 H1 q1 s1 a1 r1 => ⟨μ1, d, S1, s1, a1, r1, q1⟩)) ?_)
  rintro v s1 ⟨v1, H1, I1, rv, μ1, d, S1, st1, a1, r1, q1⟩
  refine thn (hb.run pins s1 σ' H1 (fun v2 H2 => ∃ μ2 y S2, Step μ1 H1 μ2 H2 ∧ At Γ X.N.length μ2 H2 σ S2 σ' ∧ VR Γ μ2 H2 y v2 ∧ Res.Sat (opOwnGet c F d y S2) (KD Γ μ H Q) (KE Γ W X.N.length μ H)) I1 (tev_of a1 (q1.of_bind.mono (fun _ _ z => z) fun _ _ => KE.mono st1) fun y S2 μ2 v2 H2 q2 s2 a2 r2 => ⟨μ2, y, S2, s2, a2, r2, q2⟩)) ?_
  rintro u s2 ⟨v2, H2, I2, ru, μ2, y, S2, st2, a2, r2, sat⟩
  unfold opOwnGet at sat
  split at sat
  · rename_i c2 fs2 e2
    split at sat
    · rename_i hcc
      subst hcc
      obtain ⟨p2, dx2, vs2, rfl, hp2, rs2⟩ := insOf_at a2.mr (r1.mono st2) e2
      obtain rfl : v = Value.ref p2 := rv
      obtain ⟨mB, O2, _⟩ := ins_get I2.hok hp2
      obtain ⟨od2, J2, _⟩ := O2.look
      obtain ⟨_, hF⟩ := I2.fr
      exact PySem.W.sub_K hF I2.ok.mod.kin J2 hs hfi hf (run_A (us := [.ref p2, u]) (vs := [.ref p2, v2]) G hr.in1 I2.env0.in1 pz I2 (.cons rfl (.cons ru .nil)) (.cons (r1.mono st2) (.cons r2 .nil)) a2.mr (Sat.later (st1.trans st2) sat)) (hsl _ _)
    · exact sat.elim
  · exact sat.elim
end
end Ev
namespace Ev
open PySem PySem.Spec PyProof.Rows L2
/-! ### what is new and not held is forgotten, or stands still from now on -/
mutual
/-- every cell named in it is one of the first n -/
def bd (n : Nat) : D → Bool
  | .loc m => decide (m < n)
  | .tup xs => bdL n xs
  | .lst xs => bdL n xs
  | .scr xs => bdL n xs
  | .dk xs => bdK n xs
  | .dt xs => bdT n xs
  | .obj _ xs => bdF n xs
  | .non => true
  | .bl _ => true
  | .int _ => true
  | .str _ => true
  | .ty _ => true
  | .gl _ => true
def bdL (n : Nat) : List D → Bool
  | [] => true
  | d :: r => bd n d && bdL n r
def bdK (n : Nat) : List (Key × D) → Bool
  | [] => true
  | (_, d) :: r => bd n d && bdK n r
def bdT (n : Nat) : List (List Key × D) → Bool
  | [] => true
  | (_, d) :: r => bd n d && bdT n r
def bdF (n : Nat) : List (Str × D) → Bool
  | [] => true
  | (_, d) :: r => bd n d && bdF n r
end
def bdO (n : Nat) : O → Bool
  | .lst xs => bdL n xs
  | .dk xs => bdK n xs
  | .dt xs => bdT n xs
  | .ins _ xs => bdF n xs
/-- a cell's data as still data -/
def fz : O → D
  | .lst xs => .lst xs
  | .dk xs => .dk xs
  | .dt xs => .dt xs
  | .ins c xs => .obj c xs
section
variable {Γ : Nat → Addr} {μ μ2 : Mp} {H : Hp}
mutual
theorem VR.bd : ∀ {d v}, VR Γ μ H d v → bd μ.cells.length d = true
  | _, _, .non => by unfold Ev.bd; rfl
  | _, _, .bl _ => by unfold Ev.bd; rfl
  | _, _, .int _ => by unfold Ev.bd; rfl
  | _, _, .str _ => by unfold Ev.bd; rfl
  | _, _, .ty _ => by unfold Ev.bd; rfl
  | _, _, .gl _ => by unfold Ev.bd; rfl
  | _, _, .loc h => by unfold Ev.bd; exact decide_eq_true (List.getElem?_eq_some_iff.mp h).1
  | _, _, .tup _ _ r => by unfold Ev.bd; exact r.bd
  | _, _, .lst _ _ r => by unfold Ev.bd; exact r.bd
  | _, _, .scr _ _ r => by unfold Ev.bd; exact r.bd
  | _, _, .dk _ _ r => by unfold Ev.bd; exact r.bd
  | _, _, .dt _ _ r => by unfold Ev.bd; exact r.bd
  | _, _, .obj _ _ r => by unfold Ev.bd; exact r.bd
theorem VRs.bd : ∀ {d v}, VRs Γ μ H d v → bdL μ.cells.length d = true
  | _, _, .nil => by unfold bdL; rfl
  | _, _, .cons a r => by unfold bdL; rw [a.bd, r.bd]; rfl
theorem KRs.bd : ∀ {d v}, KRs Γ μ H d v → bdK μ.cells.length d = true
  | _, _, .nil => by unfold bdK; rfl
  | _, _, .cons a r => by unfold bdK; rw [a.bd, r.bd]; rfl
theorem TRs.bd : ∀ {d v}, TRs Γ μ H d v → bdT μ.cells.length d = true
  | _, _, .nil => by unfold bdT; rfl
  | _, _, .cons a r => by unfold bdT; rw [a.bd, r.bd]; rfl
theorem FRs.bd : ∀ {d v}, FRs Γ μ H d v → bdF μ.cells.length d = true
  | _, _, .nil => by unfold bdF; rfl
  | _, _, .cons a r => by unfold bdF; rw [a.bd, r.bd]; rfl
end
theorem OR.bd {o : O} {p : Addr} (h : OR Γ μ H o p) : bdO μ.cells.length o = true := by
  cases h with
  | lst _ r => exact r.bd
  | dk _ r => exact r.bd
  | dt _ r => exact r.bd
  | ins _ r => exact r.bd
/-- fewer cells -/
structure Cut (μ2 μ : Mp) : Prop where
  pre : ∃ ν, μ2.cells = μ.cells ++ ν
  hid : μ2.hid = μ.hid
theorem Cut.not (c : Cut μ2 μ) {p : Addr} (h : p ∉ μ2) : p ∉ μ := fun z => by
  obtain ⟨ν, e⟩ := c.pre
  rcases z with z | z
  · exact h (.inl (by rw [e]; exact List.mem_append_left _ z))
  · exact h (.inr (by rw [c.hid]; exact z))
mutual
theorem VR.cut (c : Cut μ2 μ) : ∀ {d v}, VR Γ μ2 H d v → Ev.bd μ.cells.length d = true → VR Γ μ H d v
  | _, _, .non, _ => .non
  | _, _, .bl b, _ => .bl b
  | _, _, .int b, _ => .int b
  | _, _, .str b, _ => .str b
  | _, _, .ty b, _ => .ty b
  | _, _, .gl b, _ => .gl b
  | _, _, .loc h, b => .loc (by
    unfold Ev.bd at b
    have b := of_decide_eq_true b
    obtain ⟨ν, e⟩ := c.pre
    rw [e, List.getElem?_append_left b] at h
    exact h)
  | _, _, .tup n h r, b => .tup (c.not n) h (r.cut c (by unfold Ev.bd at b; exact b))
  | _, _, .lst n h r, b => .lst (c.not n) h (r.cut c (by unfold Ev.bd at b; exact b))
  | _, _, .scr n h r, b => .scr (c.not n) h (r.cut c (by unfold Ev.bd at b; exact b))
  | _, _, .dk n h r, b => .dk (c.not n) h (r.cut c (by unfold Ev.bd at b; exact b))
  | _, _, .dt n h r, b => .dt (c.not n) h (r.cut c (by unfold Ev.bd at b; exact b))
  | _, _, .obj n h r, b => .obj (c.not n) h (r.cut c (by unfold Ev.bd at b; exact b))
theorem VRs.cut (c : Cut μ2 μ) : ∀ {d v}, VRs Γ μ2 H d v → bdL μ.cells.length d = true → VRs Γ μ H d v
  | _, _, .nil, _ => .nil
  | _, _, .cons a r, b => by
    unfold bdL at b
    obtain ⟨x, y⟩ := Bool.and_eq_true_iff.mp b
    exact .cons (a.cut c x) (r.cut c y)
theorem KRs.cut (c : Cut μ2 μ) : ∀ {d v}, KRs Γ μ2 H d v → bdK μ.cells.length d = true → KRs Γ μ H d v
  | _, _, .nil, _ => .nil
  | _, _, .cons a r, b => by
    unfold bdK at b
    obtain ⟨x, y⟩ := Bool.and_eq_true_iff.mp b
    exact .cons (a.cut c x) (r.cut c y)
theorem TRs.cut (c : Cut μ2 μ) : ∀ {d v}, TRs Γ μ2 H d v → bdT μ.cells.length d = true → TRs Γ μ H d v
  | _, _, .nil, _ => .nil
  | _, _, .cons a r, b => by
    unfold bdT at b
    obtain ⟨x, y⟩ := Bool.and_eq_true_iff.mp b
    exact .cons (a.cut c x) (r.cut c y)
theorem FRs.cut (c : Cut μ2 μ) : ∀ {d v}, FRs Γ μ2 H d v → bdF μ.cells.length d = true → FRs Γ μ H d v
  | _, _, .nil, _ => .nil
  | _, _, .cons a r, b => by
    unfold bdF at b
    obtain ⟨x, y⟩ := Bool.and_eq_true_iff.mp b
    exact .cons (a.cut c x) (r.cut c y)
end
theorem OR.cut (c : Cut μ2 μ) {o : O} {p : Addr} (h : OR Γ μ2 H o p) (b : bdO μ.cells.length o = true) : OR Γ μ H o p := by
  cases h with
  | lst h r => exact .lst h (r.cut c b)
  | dk h r => exact .dk h (r.cut c b)
  | dt h r => exact .dt h (r.cut c b)
  | ins h r => exact .ins h (r.cut c b)
/-- a new cell's data, as still data -/
theorem OR.fz (c : Cut μ2 μ) {o : O} {p : Addr} (h : OR Γ μ2 H o p) (n : p ∉ μ) (b : Ev.bd μ.cells.length (Ev.fz o) = true) : VR Γ μ H (Ev.fz o) (.ref p) := by
  cases h with
  | lst h r => exact .lst n h (r.cut c (by unfold Ev.fz Ev.bd at b; exact b))
  | dk h r => exact .dk n (.inl h) (r.cut c (by unfold Ev.fz Ev.bd at b; exact b))
  | dt h r => exact .dt n (.inl h) (r.cut c (by unfold Ev.fz Ev.bd at b; exact b))
  | ins h r => exact .obj n h (r.cut c (by unfold Ev.fz Ev.bd at b; exact b))
theorem MR.bd {S : Sto} (m : MR Γ μ S H) {i : Nat} {o : O} (h : S[i]? = some o) : bdO μ.cells.length o = true := by
  have hi : i < S.length := (List.getElem?_eq_some_iff.mp h).1
  exact (m.ob i o _ h (List.getElem?_eq_getElem (by rw [m.len]; exact hi))).bd
theorem MR.cut {S1 T : Sto} (c : Cut μ2 μ) (m : MR Γ μ2 (S1 ++ T) H) (hl : S1.length = μ.cells.length) (b : ∀ (i : Nat) o, S1[i]? = some o → bdO μ.cells.length o = true) : MR Γ μ S1 H := by
  obtain ⟨ν, e⟩ := c.pre
  refine ⟨hl.symm, ?_, fun i o p hi hp => ?_, fun q hq => ?_⟩
  · have := m.nd
    rw [e] at this
    exact (List.nodup_append.mp this).1
  · refine (m.ob i o p ?_ ?_).cut c (b i o hi)
    · rw [List.getElem?_append_left (List.getElem?_eq_some_iff.mp hi).1]
      exact hi
    · rw [e, List.getElem?_append_left (List.getElem?_eq_some_iff.mp hp).1]
      exact hp
  · obtain ⟨a, n⟩ := m.hd q (by rw [c.hid]; exact hq)
    exact ⟨a, fun z => n (by rw [e]; exact List.mem_append_left _ z)⟩
theorem MR.newAt {S1 T : Sto} (c : Cut μ2 μ) (m : MR Γ μ2 (S1 ++ T) H) (hl : S1.length = μ.cells.length) {n : Nat} {p : Addr} (hn : μ.cells.length ≤ n) (h : μ2.cells[n]? = some p) : p ∉ μ := by
  obtain ⟨ν, e⟩ := c.pre
  rintro (z | z)
  · obtain ⟨i, hi, ei⟩ := List.mem_iff_getElem.mp z
    have h1 : μ2.cells[i]? = some p := by rw [e, List.getElem?_append_left hi, List.getElem?_eq_getElem hi, ei]
    obtain ⟨h2, e2⟩ := List.getElem?_eq_some_iff.mp h1
    obtain ⟨h3, e3⟩ := List.getElem?_eq_some_iff.mp h
    have := nodup_at m.nd h2 h3 (e2.trans e3.symm)
    omega
  · exact (m.hd p (by rw [c.hid]; exact z)).2 (List.mem_of_getElem? h)
theorem Step.isCut {μ1 : Mp} {H1 : Hp} (s : Step μ H μ1 H1) : Cut μ1 μ := ⟨s.pre, s.hid⟩
/-- back to the cells that were there -/
theorem Step.back {μ1 : Mp} {H1 : Hp} (s : Step μ H μ1 H1) : Step μ H μ H1 := ⟨⟨[], by simp⟩, rfl, fun p o h n => ⟨n, (s.kp p o h n).2⟩, s.hkeep⟩
end
/-- r' is what r says, the cells behind the n-th forgotten -/
def Cl (S : Sto) (r r' : Res D) : Prop := match r' with
  | .no => True
  | .ok d' S1 => ∃ d T, r = .ok d (S1 ++ T) ∧ S1.length = S.length ∧ (∀ (i : Nat) (o : O), S1[i]? = some o → S[i]? = some o ∨ bdO S.length o = true) ∧
      bd S.length d' = true ∧ (d' = d ∨ ∃ (m : Nat) (o : O), d = .loc m ∧ S.length ≤ m ∧ (S1 ++ T)[m]? = some o ∧ d' = fz o)
  | .ex x S1 => ∃ T, r = .ex x (S1 ++ T) ∧ S1.length = S.length ∧ (∀ (i : Nat) (o : O), S1[i]? = some o → S[i]? = some o ∨ bdO S.length o = true) ∧ bd S.length x.cls = true ∧ bdF S.length x.fs = true
/-- a new cell's data -/
def fzAt (n : Nat) (S2 : Sto) (d : D) : D := match d with
  | .loc m => if n ≤ m then match S2[m]? with
      | some o => fz o
      | none => .loc m else .loc m
  | d => d
/-- .. computed -/
def clean (S : Sto) (r : Res D) : Res D := match r with
  | .no => .no
  | .ok d S2 => if S.length ≤ S2.length ∧ (S2.take S.length).all (bdO S.length) = true ∧ bd S.length (fzAt S.length S2 d) = true then .ok (fzAt S.length S2 d) (S2.take S.length) else .no
  | .ex x S2 => if S.length ≤ S2.length ∧ (S2.take S.length).all (bdO S.length) = true ∧ bd S.length x.cls = true ∧ bdF S.length x.fs = true then .ex x (S2.take S.length) else .no
theorem fzAt_is (n : Nat) (S2 : Sto) (d : D) : fzAt n S2 d = d ∨ ∃ (m : Nat) (o : O), d = .loc m ∧ n ≤ m ∧ S2[m]? = some o ∧ fzAt n S2 d = fz o := by
  cases d with
  | loc m =>
    unfold fzAt
    by_cases hm : n ≤ m
    · cases e : S2[m]? with
      | none => left; simp [hm, e]
      | some o => right; exact ⟨m, o, rfl, hm, e, by simp [hm, e]⟩
    · left; simp [hm]
  | _ => exact .inl rfl
theorem clean_cl (S : Sto) (r : Res D) : Cl S r (clean S r) := by
  cases r with
  | no => exact True.intro
  | ok d S2 =>
    unfold clean
    by_cases h : S.length ≤ S2.length ∧ (S2.take S.length).all (bdO S.length) = true ∧ bd S.length (fzAt S.length S2 d) = true
    · simp only [h, if_true, and_self]
      obtain ⟨hl, hb, hd⟩ := h
      refine ⟨d, S2.drop S.length, by rw [List.take_append_drop], by rw [List.length_take]; omega, fun i o hi => .inr (List.all_eq_true.mp hb o (List.mem_of_getElem? hi)), hd, ?_⟩
      rw [List.take_append_drop]
      exact fzAt_is _ _ _
    · dsimp only
      rw [if_neg h]
      exact True.intro
  | ex x S2 =>
    unfold clean
    by_cases h : S.length ≤ S2.length ∧ (S2.take S.length).all (bdO S.length) = true ∧ bd S.length x.cls = true ∧ bdF S.length x.fs = true
    · simp only [h, if_true, and_self]
      obtain ⟨hl, hb, h1, h2⟩ := h
      exact ⟨S2.drop S.length, by rw [List.take_append_drop], by rw [List.length_take]; omega, fun i o hi => .inr (List.all_eq_true.mp hb o (List.mem_of_getElem? hi)), h1, h2⟩
    · dsimp only
      rw [if_neg h]
      exact True.intro
section
variable {Γ : Nat → Addr} {W : WX} {X : Cx} {e : Expr} {f f' : F1} {μ : Mp} {H : Hp} {S : Sto}
theorem xr_cut {μ2 : Mp} {x : XV} {cls : Value} {d : Option Addr} (c : Cut μ2 μ) (h : XR Γ μ2 H x cls d) (b1 : bd μ.cells.length x.cls = true) (b2 : bdF μ.cells.length x.fs = true) : XR Γ μ H x cls d := by
  refine ⟨h.1, ?_⟩
  rcases h.2 with z | ⟨dd, fs', e, n, hh, r⟩
  · exact .inl z
  · exact .inr ⟨dd, fs', e, c.not n, hh, r.cut c b2⟩
theorem cl_sat {r r' : Res D} {Q : VK} {n : Nat} (m : MR Γ μ S H) (c : Cl S r r') (h : r'.Sat (KD Γ μ H Q) (KE Γ W n μ H)) : r.Sat (KD Γ μ H Q) (KE Γ W n μ H) := by
  cases r' with
  | no => exact h.elim
  | ok d' S1 =>
    obtain ⟨d, T, rfl, hl, hb, hd, hz⟩ := c
    intro μ2 v H2 st m2 rv
    have hl' : S1.length = μ.cells.length := by rw [hl, m.len]
    rw [← m.len] at hd hb hz
    have m3 : MR Γ μ S1 H2 := m2.cut st.isCut hl' fun i o hi => (hb i o hi).elim (fun z => m.bd z) id
    refine h μ v H2 st.back m3 ?_
    rcases hz with rfl | ⟨j, o, rfl, hj, ho, rfl⟩
    · exact rv.cut st.isCut hd
    · obtain ⟨p, rfl, hp, oo⟩ := cell_at m2 rv ho
      exact oo.fz st.isCut (m2.newAt st.isCut hl' hj hp) hd
  | ex x S1 =>
    obtain ⟨T, rfl, hl, hb, b1, b2⟩ := c
    have hl' : S1.length = μ.cells.length := by rw [hl, m.len]
    rw [← m.len] at b1 b2 hb
    intro μ2 H2 cls d σ' st m2 xr hn
    exact h μ H2 cls d σ' st.back (m2.cut st.isCut hl' fun i o hi => (hb i o hi).elim (fun z => m.bd z) id) (xr_cut st.isCut xr b1 b2) hn
/-- THE RULE: a part, what is new in it forgotten -/
theorem s_cl (he : SE Γ X W e f) (c : ∀ σ S, Cl S (f σ S) (f' σ S)) : SE Γ X W e f' := by
  refine PE.imp he fun σ' H Q h => ?_
  obtain ⟨μ, σ, S, a, h⟩ := h
  exact ⟨μ, σ, S, a, cl_sat a.mr (c σ S) h⟩
def eFz (f : F1) : F1 := fun σ S => clean S (f σ S)
theorem s_fz (he : SE Γ X W e f) : SE Γ X W e (eFz f) := s_cl he fun σ S => clean_cl S _
end
end Ev
namespace Ev
open PySem PySem.Spec PyProof.Rows L2
section
variable {Γ : Nat → Addr} {W : WX} {X : Cx} {e : Expr} {f f1 f2 : F1}
/-- one of two readings, as the data say -/
theorem s_alt (h1 : SE Γ X W e f1) (h2 : SE Γ X W e f2) (h : ∀ σ S, f σ S = f1 σ S ∨ f σ S = f2 σ S ∨ f σ S = .no) : SE Γ X W e f := by
  refine ⟨fun pins s σ' H Q I q => ?_⟩
  obtain ⟨μ, σ, S, a, q⟩ := q
  rcases h σ S with z | z | z
  · rw [z] at q
    exact h1.run pins s σ' H Q I ⟨μ, σ, S, a, q⟩
  · rw [z] at q
    exact h2.run pins s σ' H Q I ⟨μ, σ, S, a, q⟩
  · rw [z] at q
    exact q.elim
theorem t_alt {f f1 f2 : FT} (h1 : ST Γ X W e f1) (h2 : ST Γ X W e f2) (h : ∀ σ S, f σ S = f1 σ S ∨ f σ S = f2 σ S ∨ f σ S = .no) : ST Γ X W e f := by
  refine ⟨fun pins s σ' H Q I q => ?_⟩
  obtain ⟨μ, σ, S, a, q⟩ := q
  rcases h σ S with z | z | z
  · rw [z] at q
    exact h1.run pins s σ' H Q I ⟨μ, σ, S, a, q⟩
  · rw [z] at q
    exact h2.run pins s σ' H Q I ⟨μ, σ, S, a, q⟩
  · rw [z] at q
    exact q.elim
/-- operations by cases -/
def opIf (c : D → D → Sto → Bool) (o1 o2 : Op2) : Op2 := fun x y S => if c x y S = true then o1 x y S else o2 x y S
def unIf (c : D → Sto → Bool) (o1 o2 : Op1) : Op1 := fun x S => if c x S = true then o1 x S else o2 x S
theorem ok_if {fm : Value → Value → Sem Value} {c : D → D → Sto → Bool} {o1 o2 : Op2} (h1 : OkOp Γ X W fm o1) (h2 : OkOp Γ X W fm o2) : OkOp Γ X W fm (opIf c o1 o2) := by
  intro pins s σ' H x' y' v u Q μ x y S I rx ry vx vy m sat
  unfold opIf at sat
  split at sat
  · exact h1 pins s σ' H x' y' v u Q μ x y S I rx ry vx vy m sat
  · exact h2 pins s σ' H x' y' v u Q μ x y S I rx ry vx vy m sat
theorem un_if {fm : Value → Sem Value} {c : D → Sto → Bool} {o1 o2 : Op1} (h1 : OkUn Γ X W fm o1) (h2 : OkUn Γ X W fm o2) : OkUn Γ X W fm (unIf c o1 o2) := by
  intro pins s σ' H x' v Q μ x S I rx vx m sat
  unfold unIf at sat
  split at sat
  · exact h1 pins s σ' H x' v Q μ x S I rx vx m sat
  · exact h2 pins s σ' H x' v Q μ x S I rx vx m sat
theorem eBin_if {c : D → D → Sto → Bool} {o1 o2 : Op2} {g h : F1} (σ : Sg) (S : Sto) : eBin (opIf c o1 o2) g h σ S = eBin o1 g h σ S ∨ eBin (opIf c o1 o2) g h σ S = eBin o2 g h σ S ∨ eBin (opIf c o1 o2) g h σ S = .no := by
  unfold eBin opIf
  cases g σ S with
  | no => exact .inl rfl
  | ex x S1 => exact .inl rfl
  | ok x S1 =>
    dsimp only [Res.bind]
    cases h σ S1 with
    | no => exact .inl rfl
    | ex y S2 => exact .inl rfl
    | ok y S2 =>
      dsimp only
      by_cases q : c x y S2 = true
      · exact .inl (if_pos q)
      · exact .inr (.inl (if_neg q))
/-- .. where one of them is a rule of its own for the expression -/
theorem s_binIf {c : D → D → Sto → Bool} {o1 o2 : Op2} {g h : F1} (h1 : SE Γ X W e (eBin o1 g h)) (h2 : SE Γ X W e (eBin o2 g h)) : SE Γ X W e (eBin (opIf c o1 o2) g h) := s_alt h1 h2 eBin_if
theorem tBin_if {c : D → D → Sto → Bool} {o1 o2 : Op2} {g h : F1} (σ : Sg) (S : Sto) : tBin (opIf c o1 o2) g h σ S = tBin o1 g h σ S ∨ tBin (opIf c o1 o2) g h σ S = tBin o2 g h σ S ∨ tBin (opIf c o1 o2) g h σ S = .no := by
  unfold tBin
  rcases eBin_if (c := c) (o1 := o1) (o2 := o2) (g := g) (h := h) σ S with z | z | z
  · exact .inl (by rw [z])
  · exact .inr (.inl (by rw [z]))
  · exact .inr (.inr (by rw [z]; rfl))
theorem t_binIf {c : D → D → Sto → Bool} {o1 o2 : Op2} {g h : F1} (h1 : ST Γ X W e (tBin o1 g h)) (h2 : ST Γ X W e (tBin o2 g h)) : ST Γ X W e (tBin (opIf c o1 o2) g h) := t_alt h1 h2 tBin_if
theorem eCall_if {c : List D → Sto → Bool} {o1 o2 : OpC} {g : FA} (σ : Sg) (S : Sto) : eCall (fun ds S => if c ds S = true then o1 ds S else o2 ds S) g σ S = eCall o1 g σ S ∨ eCall (fun ds S => if c ds S = true then o1 ds S else o2 ds S) g σ S = eCall o2 g σ S ∨
    eCall (fun ds S => if c ds S = true then o1 ds S else o2 ds S) g σ S = .no := by
  unfold eCall
  cases g σ S with
  | no => exact .inl rfl
  | ex x S1 => exact .inl rfl
  | ok x S1 =>
    dsimp only [Res.bind]
    by_cases q : c x S1 = true
    · exact .inl (if_pos q)
    · exact .inr (.inl (if_neg q))
theorem s_callIf {c : List D → Sto → Bool} {o1 o2 : OpC} {g : FA} (h1 : SE Γ X W e (eCall o1 g)) (h2 : SE Γ X W e (eCall o2 g)) : SE Γ X W e (eCall (fun ds S => if c ds S = true then o1 ds S else o2 ds S) g) := s_alt h1 h2 eCall_if
end
/-! ### making an instance -/
def mkC (c : Nat) (F : Fd) : OpC := fun ds S => (F (.loc S.length :: ds) (S ++ [.ins c []])).bind fun r S2 => match r with
  | .non => .ok (.loc S.length) S2
  | _ => .no
section
variable {Γ : Nat → Addr} {W : WX} {X : Cx} {k : Nat} {F : Fd} {H : Hp} {S : Sto} {pos apos p sp_ : Pos} {e o fe : Expr} {es : List Expr} {f g h : F1} {ga : FA} {x m : Str} {c : Nat} {fa : Addr}
theorem run_mk {pins : List (Addr × Obj)} {σ' : L2.St} {s : Shared} {Q : VK} {us : List Value} {vs : List V} {μ : Mp} {ds : List D} (M : Mk X.K (Γ c) fa) (G : FnF Γ X.prog X.w X.K X.mg X.base k fa F) (hr : Room (k + 1) X.A) (pz : Pz X W) (I : Inv X pins σ' H s)
    (r : Vals vs us) (vr : VRs Γ μ H ds vs) (mr : MR Γ μ S H) (sat : (mkC c F ds S).Sat (KD Γ μ H Q) (KE Γ W X.N.length μ H)) : wpAny (model X.prog X.w) X.A (call (.ref (Γ c)) us) (EP X pins σ' Q) X.xe s := by
  have n1 : H s.heap.objs.size = none := I.hok.fresh (Nat.le_refl _)
  have n2 : H (s.heap.objs.size + 1) = none := I.hok.fresh (Nat.le_succ _)
  have ne : s.heap.objs.size ≠ s.heap.objs.size + 1 := Nat.ne_of_lt (Nat.lt_succ_self _)
  have I2 := Inv.made (C := Γ c) I
  have r2 : Vals (V.ref (s.heap.objs.size + 1) :: vs) (Value.ref (s.heap.objs.size + 1) :: us) := .cons rfl r
  have m1 : MR Γ μ S (upd H s.heap.objs.size (.own (s.heap.objs.size + 1))) := mr.new n1
  have s1 : Step μ H μ (upd H s.heap.objs.size (.own (s.heap.objs.size + 1))) := Step.new n1
  have n3 : upd H s.heap.objs.size (.own (s.heap.objs.size + 1)) (s.heap.objs.size + 1) = none := by rw [upd_ne (Ne.symm ne)]; exact n2
  have s2 : Step μ _ (μ.add (s.heap.objs.size + 1)) (upd (upd H s.heap.objs.size (.own (s.heap.objs.size + 1))) (s.heap.objs.size + 1) (.ins (Γ c) s.heap.objs.size [])) := Step.cell n3
  have m2 : MR Γ (μ.add (s.heap.objs.size + 1)) (S ++ [.ins c []]) (upd (upd H s.heap.objs.size (.own (s.heap.objs.size + 1))) (s.heap.objs.size + 1) (.ins (Γ c) s.heap.objs.size [])) := m1.cell n3 (.ins upd_same .nil)
  have at_ : VR Γ (μ.add (s.heap.objs.size + 1)) (upd (upd H s.heap.objs.size (.own (s.heap.objs.size + 1))) (s.heap.objs.size + 1) (.ins (Γ c) s.heap.objs.size [])) (.loc S.length) (.ref (s.heap.objs.size + 1)) := .loc (by
    show (μ.cells ++ [s.heap.objs.size + 1])[S.length]? = _
    rw [List.getElem?_append_right (by rw [mr.len] <;> exact Nat.le_refl _), mr.len, Nat.sub_self]
    rfl)
  have st := s1.trans s2
  have run := G (X.A.under (.builtin "type.__call__" ⟨.ref (Γ c) :: us, []⟩)) X.stack _ _ (Value.ref (s.heap.objs.size + 1) :: us) (V.ref (s.heap.objs.size + 1) :: vs) (fun v H2 => v = .non ∧ Q (.ref (s.heap.objs.size + 1)) H2) (WE W σ') (hr.make _ us []) (I2.env0.make _ us []) r2
    ⟨_, .loc S.length :: ds, S ++ [.ins c []], .cons at_ (vr.mono st), m2, by
      refine sat.of_bind.mono (fun d S2 q => ?_) fun x S' kx μ' H' cls d st' m' xr => kx μ' H' cls d σ' (st.trans st') m' xr I.len
      split at q
      · intro μ3 v3 H3 st3 m3 r3
        cases r3
        exact ⟨rfl, q μ3 _ H3 (st.trans st3) m3 (at_.mono st3)⟩
      · exact q.elim⟩
  refine wpAny_call (make_map (f := fa) I.kIn M.makes M.init (beq_iff_eq.mp M.fn) (codeAny_mono run fun r s' hq' => ?_))
  cases r with
  | error e => exact pz σ' pins _ _ e s' I2 hq'
  | ok fl =>
    cases fl with
    | ret u =>
      obtain ⟨v, H', I3, rv, ev, q3⟩ := I2.after hq'
      subst ev
      exact ⟨rv, ⟨V.ref (s.heap.objs.size + 1), H', I3, rfl, q3⟩⟩
    | next => exact False.elim hq'
    | brk => exact False.elim hq'
    | cont => exact False.elim hq'
/-- C(a, ..) -/
theorem s_make (M : Mk X.K (Γ c) fa) (G : FnF Γ X.prog X.w X.K X.mg X.base k fa F) (hr : Room (k + 1) X.A) (pz : Pz X W) (hg : Gl X x) (hm : X.mg x = some (.ref (Γ c))) (ha : SA Γ X W (e :: es) ga)
    (hdb : (x == ("__debug__" : Str)) = false := by decide) (he : starEach (e :: es) X.env = (false, eval e X.env) :: starEach es X.env := by rfl) (hpl : (backTo pos (starEach es X.env)).any (·.1) = false := by rfl) :
    SE Γ X W (.Call (.Name x p) (e :: es) [] pos) (eCall (mkC c F) ga) := by
  refine ⟨fun pins s σ H Q I h => ?_⟩
  obtain ⟨μ, σ, S, a, h⟩ := h
  refine wpAny_Call_Name_kw (ld_glob I hg hm ?_ hdb)
  refine PySem.W.callWith_K (h₀ := X.base) I.ok.mod.kin M.kp (thn (ha.run pos pins s _ H (fun vs H1 => ∃ μ1 ds S1, Step μ H μ1 H1 ∧ MR Γ μ1 S1 H1 ∧ VRs Γ μ1 H1 ds vs ∧ (mkC c F ds S1).Sat (KD Γ μ H Q) (KE Γ W X.N.length μ H)) I (tav_of a h.of_bind fun ds S1 μ1 vs H1 h1 s1 a1 r1 => ⟨μ1, ds, S1, s1, a1.mr, r1, h1⟩)) fun us s1 q => ?_) he hpl
  obtain ⟨vs, H1, I1, r, μ1, ds, S1, st, m1, vr, sat⟩ := q
  exact ⟨I1.kIn, run_mk M G hr pz I1 r vr m1 (Sat.later st sat)⟩
/-- C(a, .., *b) -/
theorem s_makeS (M : Mk X.K (Γ c) fa) (G : FnF Γ X.prog X.w X.K X.mg X.base k fa F) (hr : Room (k + 1) X.A) (pz : Pz X W) (hg : Gl X x) (hm : X.mg x = some (.ref (Γ c))) (ha : SA Γ X W (e :: es) ga)
    (hdb : (x == ("__debug__" : Str)) = false := by decide) (he : starEach (e :: es) X.env = (false, eval e X.env) :: starEach es X.env := by rfl) (hst : (backTo pos (starEach es X.env)).any (·.1) = true := by rfl) :
    SE Γ X W (.Call (.Name x p) (e :: es) [] pos) (eCall (mkC c F) ga) := by
  refine ⟨fun pins s σ H Q I h => ?_⟩
  obtain ⟨μ, σ, S, a, h⟩ := h
  refine wpAny_Call_Name_kw (ld_glob I hg hm ?_ hdb)
  refine PySem.W.callWith_S2 (h₀ := X.base) I.ok.mod.kin M.kp (thn (ha.run pos pins s _ H (fun vs H1 => ∃ μ1 ds S1, Step μ H μ1 H1 ∧ MR Γ μ1 S1 H1 ∧ VRs Γ μ1 H1 ds vs ∧ (mkC c F ds S1).Sat (KD Γ μ H Q) (KE Γ W X.N.length μ H)) I (tav_of a h.of_bind fun ds S1 μ1 vs H1 h1 s1 a1 r1 => ⟨μ1, ds, S1, s1, a1.mr, r1, h1⟩)) fun us s1 q => ?_) he hst
  obtain ⟨vs, H1, I1, r, μ1, ds, S1, st, m1, vr, sat⟩ := q
  exact ⟨I1.kIn, run_mk M G hr pz I1 r vr m1 (Sat.later st sat)⟩
/-- f(a, ..), f an expression that gives the class C -/
def eMkV (c : Nat) (F : Fd) (f : F1) (g : FA) : F1 := fun σ S => (f σ S).bind fun d S1 => match d with
  | .gl c' => if c' = c then eCall (mkC c F) g σ S1 else .no
  | _ => .no
theorem s_makeV (M : Mk X.K (Γ c) fa) (G : FnF Γ X.prog X.w X.K X.mg X.base k fa F) (hr : Room (k + 1) X.A) (pz : Pz X W) (hf : SE Γ X W fe f) (ha : SA Γ X W (e :: es) ga)
    (ht : eval (.Call fe (e :: es) [] pos) X.env = (do callWith pos (← eval fe X.env) [] (backTo pos (starEach (e :: es) X.env)) (backToKw pos (keywordEach [] X.env))) := by rfl)
    (he : starEach (e :: es) X.env = (false, eval e X.env) :: starEach es X.env := by rfl) (hpl : (backTo pos (starEach es X.env)).any (·.1) = false := by rfl) : SE Γ X W (.Call fe (e :: es) [] pos) (eMkV c F f ga) := by
  refine ⟨fun pins s σ' H Q I h => ?_⟩
  obtain ⟨μ, σ, S, a, h⟩ := h
  refine Call_ (thn (hf.run pins s σ' H (fun v1 H1 => v1 = .ref (Γ c) ∧ ∃ μ1 S1, Step μ H μ1 H1 ∧ At Γ X.N.length μ1 H1 σ S1 σ' ∧ Res.Sat (eCall (mkC c F) ga σ S1) (KD Γ μ H Q) (KE Γ W X.N.length μ H)) I (tev_of a h.of_bind fun d S1 μ1 v1 H1 q1 s1 a1 r1 => ?_)) fun u s1 q => ?_) ht
  · split at q1
    · rename_i c'
      split at q1
      · rename_i hc
        subst hc
        cases r1
        exact ⟨rfl, μ1, S1, s1, a1, q1⟩
      · exact q1.elim
    · exact q1.elim
  · obtain ⟨v1, H1, I1, rv, rfl, μ1, S1, st, a1, q1⟩ := q
    obtain rfl : u = Value.ref (Γ c) := rv
    refine PySem.W.callWith_K (h₀ := X.base) I.ok.mod.kin M.kp (thn (ha.run pos pins s1 σ' H1 (fun vs H2 => ∃ μ2 ds S2, Step μ1 H1 μ2 H2 ∧ MR Γ μ2 S2 H2 ∧ VRs Γ μ2 H2 ds vs ∧ (mkC c F ds S2).Sat (KD Γ μ H Q) (KE Γ W X.N.length μ H)) I1 (tav_of a1 (q1.of_bind.mono (fun _ _ z => z) fun _ _ => KE.mono st) fun ds S2 μ2 vs H2 h2 s2 a2 r2 => ⟨μ2, ds, S2, s2, a2.mr, r2, h2⟩)) fun us s2 q => ?_) he hpl
    obtain ⟨vs, H2, I2, r, μ2, ds, S2, st2, m2, vr, sat⟩ := q
    exact ⟨I2.kIn, run_mk M G hr pz I2 r vr m2 (Sat.later (st.trans st2) sat)⟩
/-! ### o(a, ..), o an instance -/
def isIns (c : Nat) (d : D) (S : Sto) : Bool := match insOf d S with
  | some (c', _) => c' == c
  | none => false
theorem isIns_at {μ : Mp} {S : Sto} (mr : MR Γ μ S H) {d : D} {v : V} (r : VR Γ μ H d v) (h : isIns c d S = true) : ∃ q dx vs, v = .ref q ∧ H q = some (.ins (Γ c) dx vs) := by
  unfold isIns at h
  split at h
  · rename_i c' fs e
    obtain rfl : c' = c := by simpa using h
    obtain ⟨q, dx, vs, ev, hq, _⟩ := insOf_at mr r e
    exact ⟨q, dx, vs, ev, hq⟩
  · cases h
def eCallO (c : Nat) (F : Fd) (f : F1) (g : FA) : F1 := fun σ S => (f σ S).bind fun d S1 => if isIns c d S1 = true then (g σ S1).bind fun ds S2 => if isIns c d S2 = true then F (d :: ds) S2 else .no else .no
theorem s_callO (cO : StX.CallO X.K (Γ c) fa) (G : FnF Γ X.prog X.w X.K X.mg X.base k fa F) (hr : Room k X.A) (pz : Pz X W) (hf : SE Γ X W fe f) (ha : SA Γ X W (e :: es) ga)
    (ht : eval (.Call fe (e :: es) [] pos) X.env = (do callWith pos (← eval fe X.env) [] (backTo pos (starEach (e :: es) X.env)) (backToKw pos (keywordEach [] X.env))) := by rfl)
    (he : starEach (e :: es) X.env = (false, eval e X.env) :: starEach es X.env := by rfl) (hpl : (backTo pos (starEach es X.env)).any (·.1) = false := by rfl) : SE Γ X W (.Call fe (e :: es) [] pos) (eCallO c F f ga) := by
  refine ⟨fun pins s σ' H Q I h => ?_⟩
  obtain ⟨μ, σ, S, a, h⟩ := h
  refine Call_ (thn (hf.run pins s σ' H (fun v1 H1 => ∃ p1 μ1 d S1, v1 = .ref p1 ∧ Step μ H μ1 H1 ∧ At Γ X.N.length μ1 H1 σ S1 σ' ∧ VR Γ μ1 H1 d v1 ∧ Res.Sat ((ga σ S1).bind fun ds S2 => if isIns c d S2 = true then F (d :: ds) S2 else .no) (KD Γ μ H Q) (KE Γ W X.N.length μ H)) I (tev_of a h.of_bind fun d S1 μ1 v1 H1 q1 s1 a1 r1 => ?_)) fun u s1 q => ?_) ht
  · split at q1
    · rename_i hi
      obtain ⟨p1, dx, vs, rfl, _⟩ := isIns_at a1.mr r1 hi
      exact ⟨p1, μ1, d, S1, rfl, s1, a1, r1, q1⟩
    · exact q1.elim
  · obtain ⟨v1, H1, I1, rv, p1, μ1, d, S1, rfl, st, a1, r1, q1⟩ := q
    obtain rfl : u = Value.ref p1 := rv
    refine StX.callO_with (thn (ha.run pos pins s1 σ' H1 (fun vs H2 => ∃ μ2 ds S2, Step μ1 H1 μ2 H2 ∧ MR Γ μ2 S2 H2 ∧ VRs Γ μ2 H2 ds vs ∧ Res.Sat (if isIns c d S2 = true then F (d :: ds) S2 else .no) (KD Γ μ H Q) (KE Γ W X.N.length μ H)) I1 (tav_of a1 (q1.of_bind.mono (fun _ _ z => z) fun _ _ => KE.mono st) fun ds S2 μ2 vs H2 h2 s2 a2 r2 => ⟨μ2, ds, S2, s2, a2.mr, r2, h2⟩)) fun us s2 q => ?_) he hpl
    obtain ⟨vs, H2, I2, r, μ2, ds, S2, st2, m2, vr, sat⟩ := q
    split at sat
    · rename_i hi
      obtain ⟨p2, dx, ws, e2, hq⟩ := isIns_at m2 (r1.mono st2) hi
      cases e2
      obtain ⟨ox, od, J, hd⟩ := StX.insC_at I2 (.inr ⟨dx, ws, hq⟩)
      exact ⟨⟨_, ox, od, J, hd⟩, wpAny_call (PySem.W.kco_code I2.kIn J hd cO.at_ cO.fn cO.fi (run_F (us := .ref p1 :: us) (vs := .ref p1 :: vs) G hr pz I2 (.cons rfl r) (.cons (r1.mono st2) vr) m2 (Sat.later (st.trans st2) sat)))⟩
    · exact sat.elim
/-- a part's answer, looked at from within -/
theorem Sat.inner {μ μ1 : Mp} {H1 : Hp} {r : Res D} {kk : D → Sto → Res D} {Q Q' : VK} {n : Nat} (st : Step μ H μ1 H1) (sat : (r.bind kk).Sat (KD Γ μ H Q) (KE Γ W n μ H)) (h : ∀ d S1, (kk d S1).Sat (KD Γ μ H Q) (KE Γ W n μ H) → KD Γ μ1 H1 Q' d S1) : r.Sat (KD Γ μ1 H1 Q') (KE Γ W n μ1 H1) :=
  sat.of_bind.mono h fun _ _ => KE.mono st
/-! ### len(o), o an instance -/
def opLenO (c : Nat) (F : Fd) : OpC := fun ds S => match ds with
  | [d] => if isIns c d S = true then (F [d] S).bind fun r S1 => match r with
    | .int n => if 0 ≤ n ∧ n < 2 ^ 63 then .ok (.int n) S1 else .no
    | _ => .no else .no
  | _ => .no
theorem s_lenO (hs : PySem.W.findIn X.K (.ref (Γ c)) "__len__" = some (some (.ref fa))) (hf : PySem.W.isFn X.K (.ref fa) = true) (G : FnF Γ X.prog X.w X.K X.mg X.base k fa F) (hr : Room (k + 1) X.A) (pz : Pz X W) (hg : Gl X "len") (hm : X.mg "len" = none) (ha : SA Γ X W (e :: es) ga)
    (he : starEach (e :: es) X.env = (false, eval e X.env) :: starEach es X.env := by rfl) (hpl : (backTo pos (starEach es X.env)).any (·.1) = false := by rfl) : SE Γ X W (.Call (.Name "len" p) (e :: es) [] pos) (eCall (opLenO c F) ga) := by
  refine ⟨fun pins s σ' H Q I h => ?_⟩
  obtain ⟨μ, σ, S, a, h⟩ := h
  refine wpAny_Call_Name_kw (ld_blt I hg hm rfl ?_)
  refine PyProof.Rows.callWith_builtin1 (thn (ha.run pos pins s σ' H (fun vs H1 => ∃ μ1 ds S1, Step μ H μ1 H1 ∧ MR Γ μ1 S1 H1 ∧ VRs Γ μ1 H1 ds vs ∧ (opLenO c F ds S1).Sat (KD Γ μ H Q) (KE Γ W X.N.length μ H)) I (tav_of a h.of_bind fun ds S1 μ1 vs H1 h1 s1 a1 r1 => ⟨μ1, ds, S1, s1, a1.mr, r1, h1⟩)) fun us s1 q => ?_) he hpl
  obtain ⟨vs, H1, I1, r, μ1, ds, S1, st, m1, vr, sat⟩ := q
  unfold opLenO at sat
  split at sat
  · rename_i d
    obtain ⟨v, rfl, r1⟩ := vr.one
    split at sat
    · rename_i hi
      obtain ⟨p1, dx, ws, rfl, hq⟩ := isIns_at m1 r1 hi
      obtain rfl := Vals.ref1 r
      obtain ⟨mA, O, _⟩ := ins_get I1.hok hq
      obtain ⟨od, J, _⟩ := O.look
      obtain ⟨_, hF⟩ := I1.fr
      refine PySem.W.len_K hF I1.ok.mod.kin J hs hf (thn (run_A (us := [.ref p1]) (vs := [.ref p1]) (Q := fun v H' => ∃ n : Int, v = .int n ∧ (0 ≤ n ∧ n < 2 ^ 63) ∧ Q (.int n) H') G hr.in1 I1.env0.in1 pz I1 (.cons rfl .nil) (.cons r1 .nil) m1 (Sat.inner st sat fun r S2 q => ?_)) ?_)
      · split at q
        · rename_i n
          split at q
          · rename_i hb
            intro μ' v' H' st' mr' rv
            cases rv
            exact ⟨n, rfl, hb, q μ' _ H' (st.trans st') mr' (.int _)⟩
          · exact q.elim
        · exact q.elim
      · rintro v s' ⟨z, H', I', rz, n, rfl, hb, q⟩
        obtain ⟨t, rfl⟩ : ∃ t, v = Value.int n t := rz
        exact ⟨hb, .int n, H', I'.tok _, ⟨_, rfl⟩, q⟩
    · exact sat.elim
  · exact sat.elim
end
end Ev
namespace Ev
open PySem PySem.Spec PyProof.Rows L2
section
variable {Γ : Nat → Addr} {W : WX} {X : Cx} {pos : Pos} {a b c : Expr} {f g h : F1}
/-! ### a op b op' c -/
theorem s_chain {op op' : CmpOp} {o1 o2 : Op2} (ho : OkOp Γ X W (compareOp op) o1) (ho' : OkOp Γ X W (compareOp op') o2) (ha : SE Γ X W a f) (hb : SE Γ X W b g) (hc : SE Γ X W c h)
    (hm : lastMarks [op, op'] [b, c] = false := by with_unfolding_all rfl) : SE Γ X W (.Compare a [op, op'] [b, c] pos) (eChain o1 o2 f g h) := by
  refine ⟨fun pins s σ' H Q I q => ?_⟩
  obtain ⟨μ, σ, S, a0, q⟩ := q
  refine Compare_chain (thn (ha.run pins s σ' H (fun v1 H1 => ∃ μ1 d S1, Step μ H μ1 H1 ∧ At Γ X.N.length μ1 H1 σ S1 σ' ∧ VR Γ μ1 H1 d v1 ∧ Res.Sat ((g σ S1).bind fun y S2 => (o1 d y S2).bind fun z S3 => match z with
      | .bl true => (h σ S3).bind fun w S4 => o2 y w S4
      | .bl false => .ok (.bl false) S3
      | _ => .no) (KD Γ μ H Q) (KE Γ W X.N.length μ H)) I (tev_of a0 q.of_bind fun d S1 μ1 v1 H1 q1 s1 a1 r1 => ⟨μ1, d, S1, s1, a1, r1, q1⟩)) fun v s1 ⟨x, H1, I1, rx, μ1, d, S1, st1, a1, r1, q1⟩ => chain_link
    (thn (hb.run pins s1 σ' H1 (fun v2 H2 => ∃ μ2 y S2, Step μ1 H1 μ2 H2 ∧ At Γ X.N.length μ2 H2 σ S2 σ' ∧ VR Γ μ2 H2 y v2 ∧ Res.Sat ((o1 d y S2).bind fun z S3 => match z with
      | .bl true => (h σ S3).bind fun w S4 => o2 y w S4
      | .bl false => .ok (.bl false) S3
      | _ => .no) (KD Γ μ H Q) (KE Γ W X.N.length μ H)) I1 (tev_of a1 (q1.of_bind.mono (fun _ _ z => z) fun _ _ => KE.mono st1) fun y S2 μ2 v2 H2 q2 s2 a2 r2 => ⟨μ2, y, S2, s2, a2, r2, q2⟩)) fun u s2 ⟨yv, H2, I2, ry, μ2, y, S2, st2, a2, r2, q2⟩ =>
    thn (ho pins s2 σ' H2 x yv v u (fun z H3 => ∃ k, z = .bl k ∧ ∃ μ3 S3, Step μ2 H2 μ3 H3 ∧ At Γ X.N.length μ3 H3 σ S3 σ' ∧ Res.Sat (if k = true then (h σ S3).bind fun w S4 => o2 y w S4 else .ok (.bl false) S3) (KD Γ μ H Q) (KE Γ W X.N.length μ H)) μ2 d y S2 I2 rx ry (r1.mono st2) r2 a2.mr
      (Sat.inner (st1.trans st2) q2 fun z S3 q3 μ3 v3 H3 st3 m3 r3 => ?_)) fun d3 s3 ⟨z, H3, I3, r3, k, e, μ3, S3, st3, a3, q3⟩ => ?_)) hm
  · split at q3
    · cases r3
      exact ⟨true, rfl, μ3, S3, st3, a2.mono st3 m3, q3⟩
    · cases r3
      exact ⟨false, rfl, μ3, S3, st3, a2.mono st3 m3, q3⟩
    · exact q3.elim
  · subst e
    cases r3
    refine wpAny_truthy_bool ?_
    have st := (st1.trans st2).trans st3
    cases k with
    | false => exact ite_ff ⟨.bl false, H3, I3, rfl, KD.here (KD.mono st q3) a3.mr (.bl _)⟩
    | true =>
      refine ite_tt (chain_last (thn (hc.run pins s3 σ' H3 (fun v4 H4 => ∃ μ4 w S4, Step μ3 H3 μ4 H4 ∧ MR Γ μ4 S4 H4 ∧ VR Γ μ4 H4 w v4 ∧ (o2 y w S4).Sat (KD Γ μ H Q) (KE Γ W X.N.length μ H)) I3 (tev_of a3 ((Res.Sat.of_bind (by rw [if_pos rfl] at q3; exact q3)).mono (fun _ _ z => z) fun _ _ => KE.mono st) fun w S4 μ4 v4 H4 q4 s4 a4 r4 => ⟨μ4, w, S4, s4, a4.mr, r4, q4⟩)) fun w' s4 ⟨z', H4, I4, r4, μ4, w, S4, st4, m4, rw4, q4⟩ => ?_))
      exact ho' pins s4 σ' H4 yv z' u w' Q μ4 y w S4 I4 ry r4 (r2.mono (st3.trans st4)) rw4 m4 (Sat.later (st.trans st4) q4)
theorem t_chain {op op' : CmpOp} {o1 o2 : Op2} (ho : OkOp Γ X W (compareOp op) o1) (ho' : OkOp Γ X W (compareOp op') o2) (ha : SE Γ X W a f) (hb : SE Γ X W b g) (hc : SE Γ X W c h)
    (hm : lastMarks [op, op'] [b, c] = false := by with_unfolding_all rfl) : ST Γ X W (.Compare a [op, op'] [b, c] pos) (tChain o1 o2 f g h) := by
  refine ⟨fun pins s σ' H Q0 I q => ?_⟩
  obtain ⟨μ, σ, S, a0, q⟩ := q
  have q := asT q
  generalize hQ : (fun (v : V) (H' : Hp) => ∃ k, v = V.bl k ∧ Q0 k H') = Q at q
  refine isTrue_chain (thn (ha.run pins s σ' H (fun v1 H1 => ∃ μ1 d S1, Step μ H μ1 H1 ∧ At Γ X.N.length μ1 H1 σ S1 σ' ∧ VR Γ μ1 H1 d v1 ∧ Res.Sat ((g σ S1).bind fun y S2 => (o1 d y S2).bind fun z S3 => match z with
      | .bl true => (h σ S3).bind fun w S4 => o2 y w S4
      | .bl false => .ok (.bl false) S3
      | _ => .no) (KD Γ μ H Q) (KE Γ W X.N.length μ H)) I (tev_of a0 q.of_bind fun d S1 μ1 v1 H1 q1 s1 a1 r1 => ⟨μ1, d, S1, s1, a1, r1, q1⟩)) fun v s1 ⟨x, H1, I1, rx, μ1, d, S1, st1, a1, r1, q1⟩ => test_link
    (thn (hb.run pins s1 σ' H1 (fun v2 H2 => ∃ μ2 y S2, Step μ1 H1 μ2 H2 ∧ At Γ X.N.length μ2 H2 σ S2 σ' ∧ VR Γ μ2 H2 y v2 ∧ Res.Sat ((o1 d y S2).bind fun z S3 => match z with
      | .bl true => (h σ S3).bind fun w S4 => o2 y w S4
      | .bl false => .ok (.bl false) S3
      | _ => .no) (KD Γ μ H Q) (KE Γ W X.N.length μ H)) I1 (tev_of a1 (q1.of_bind.mono (fun _ _ z => z) fun _ _ => KE.mono st1) fun y S2 μ2 v2 H2 q2 s2 a2 r2 => ⟨μ2, y, S2, s2, a2, r2, q2⟩)) fun u s2 ⟨yv, H2, I2, ry, μ2, y, S2, st2, a2, r2, q2⟩ =>
    thn (ho pins s2 σ' H2 x yv v u (fun z H3 => ∃ k, z = .bl k ∧ ∃ μ3 S3, Step μ2 H2 μ3 H3 ∧ At Γ X.N.length μ3 H3 σ S3 σ' ∧ Res.Sat (if k = true then (h σ S3).bind fun w S4 => o2 y w S4 else .ok (.bl false) S3) (KD Γ μ H Q) (KE Γ W X.N.length μ H)) μ2 d y S2 I2 rx ry (r1.mono st2) r2 a2.mr
      (Sat.inner (st1.trans st2) q2 fun z S3 q3 μ3 v3 H3 st3 m3 r3 => ?_)) fun d3 s3 ⟨z, H3, I3, r3, k, e, μ3, S3, st3, a3, q3⟩ => ?_)) hm
  · split at q3
    · cases r3
      exact ⟨true, rfl, μ3, S3, st3, a2.mono st3 m3, q3⟩
    · cases r3
      exact ⟨false, rfl, μ3, S3, st3, a2.mono st3 m3, q3⟩
    · exact q3.elim
  · subst e
    cases r3
    refine wpAny_truthy_bool ?_
    have st := (st1.trans st2).trans st3
    cases k with
    | false =>
      have q4 := KD.here (KD.mono st q3) a3.mr (.bl _)
      rw [← hQ] at q4
      obtain ⟨k', e', q'⟩ := q4
      cases e'
      exact ite_ff ⟨H3, I3, q'⟩
    | true =>
      refine ite_tt (test_last (thn (hc.run pins s3 σ' H3 (fun v4 H4 => ∃ μ4 w S4, Step μ3 H3 μ4 H4 ∧ MR Γ μ4 S4 H4 ∧ VR Γ μ4 H4 w v4 ∧ (o2 y w S4).Sat (KD Γ μ H Q) (KE Γ W X.N.length μ H)) I3 (tev_of a3 ((Res.Sat.of_bind (by rw [if_pos rfl] at q3; exact q3)).mono (fun _ _ z => z) fun _ _ => KE.mono st) fun w S4 μ4 v4 H4 q4 s4 a4 r4 => ⟨μ4, w, S4, s4, a4.mr, r4, q4⟩)) fun w' s4 ⟨z', H4, I4, r4, μ4, w, S4, st4, m4, rw4, q4⟩ => ?_))
      refine thn (ho' pins s4 σ' H4 yv z' u w' Q μ4 y w S4 I4 ry r4 (r2.mono (st3.trans st4)) rw4 m4 (Sat.later (st.trans st4) q4)) fun d' s5 ⟨z2, H5, I5, r5, q5⟩ => ?_
      rw [← hQ] at q5
      obtain ⟨k2, e2, q5⟩ := q5
      subst e2
      cases r5
      exact wpAny_truthy_bool ⟨H5, I5, q5⟩
end
/-! ### bool(o), o an instance -/
section
variable {prog : Program} {w : World} {A : Around} {E : Value → Shared → Prop} {s : Shared} {K : PySem.W.Frag} {x C L f : Addr} {ox : Obj} {od : Option Obj}
theorem truthy_len (X : K.In s.heap) (I : PySem.W.InstAt s.heap x ox C od) (hb : PySem.W.findIn K (.ref C) "__bool__" = some none) (hl : PySem.W.findIn K (.ref C) "__len__" = some (some (.ref f))) (hf : PySem.W.isFn K (.ref f) = true) {Q : Bool → Shared → Prop}
    (h : wpAny (model prog w) A.in1 (call (.ref f) [.ref x]) (PySem.W.LenBack fun v s' => ∀ n t, v = .int n t → Q (n != 0) s') E s) : wpAny (model prog w) A (truthy (.ref x)) Q E s := by
  unfold truthy
  refine wpAny_bind (m := callSpecial? (.ref x) (Str.ofString "__bool__")) (wpAny_bind (wpAny_bind (I.type.here ((PySem.W.looks_findIn X hb).here (wpAny_pure ?_)))))
  refine wpAny_bind (wpAny_bind (I.type.here ((PySem.W.looks_findIn X hl).here ?_)))
  have key : wpAny (model prog w) A (runValue (.builtin "len" ⟨[.ref x], []⟩)) (fun r s' => ∃ n t, r = .int n t ∧ Q (n != 0) s') E s := by
    refine wpAny_runValue (codeAny_builtin entry_len ?_)
    rw [Around.under_plainId plain_len _]
    unfold Builtin.«len»
    refine wpAny_bind (m := oneArg "len" _) (wpAny_pure ?_)
    refine wpAny_bind (m := callSpecial? (.ref x) (Str.ofString "__len__")) (PySem.W.special_fn X I hl (beq_iff_eq.mp hf) (wpAny_mono h (fun r s' hr => ?_) fun _ _ y => y))
    cases r <;> first | exact hr.elim | skip
    rename_i n u
    obtain ⟨⟨h0, h1⟩, hq⟩ := hr
    refine wpAny_bind (wpAny_holding (wpAny_pure ?_))
    refine wpAny_bind (wpAny_letGo ?_)
    show wpAny _ _ (if n < 0 then _ else _) _ _ _
    rw [if_neg (by omega)]
    show wpAny _ _ (if n ≥ 2 ^ 63 then _ else _) _ _ _
    rw [if_neg (by omega)]
    exact wpAny_bind (wpAny_mkInt (wpAny_pure ⟨n, _, rfl, hq n _ rfl⟩))
  exact wpAny_bind (wpAny_mono key (fun r s' h' => by obtain ⟨n, t, rfl, hq⟩ := h'; exact wpAny_pure hq) fun _ _ e => e)
theorem meets_bool_own : PySem.MeetsIn prog w (Builtin.«bool.__new__» ⟨[.type "bool", .ref x], []⟩) (fun A R s => wpAny (model prog w) A.in1 (truthy (.ref x)) (fun b s' => R (.ok (.ret (.bool b))) s') (fun e s' => R (.error e) s') s) :=
  .of_wp fun A R s hs => by
    have f1 := PySem.F.conv_sub_bool
    obtain ⟨hp, g, d, tk, os⟩ := s
    repeat (any_goals (first | assumption | (refine wpAny_bind (m := truthy (.ref x)) (wpAny_mono hs (fun b s' hb => ?_) fun _ _ e => e)) | wp_step))
    all_goals first | exact ⟨_, rfl, hb⟩ | skip
theorem call_bool_own {Q : Value → Shared → Prop} (h : wpAny (model prog w) A.in1.in1 (truthy (.ref x)) (fun b s' => Q (.bool b) s') E s) : wpAny (model prog w) A (call (.type "bool") [.ref x]) Q E s := by
  refine PySem.callType_newIn PySem.F.called_bool PySem.F.newNe_bool (PySem.F.typeCall_bool_1 _) (PySem.F.newCall_bool_1 _) (fun obj => PySem.F.args_object_init_2 obj _) PySem.F.entry_bool_new meets_bool_own ?_
  exact wpAny_mono h (fun b s' hb => ⟨PySem.typeIs_bool _ _, hb⟩) fun _ _ e => e
end
def opBoolLen (c : Nat) (F : Fd) : OpC := fun ds S => match ds with
  | [d] => if isIns c d S = true then (F [d] S).bind fun r S1 => match r with
    | .int n => if 0 ≤ n ∧ n < 2 ^ 63 then .ok (.bl (n != 0)) S1 else .no
    | _ => .no else .no
  | _ => .no
def opBoolO (c : Nat) (F : Fd) : OpC := fun ds S => match ds with
  | [d] => if isIns c d S = true then (F [d] S).bind fun r S1 => match r with
    | .bl b => .ok (.bl b) S1
    | _ => .no else .no
  | _ => .no
section
variable {Γ : Nat → Addr} {W : WX} {X : Cx} {k : Nat} {F : Fd} {pos p : Pos} {e : Expr} {es : List Expr} {ga : FA} {c : Nat} {fa : Addr}
theorem s_boolLen (hbo : PySem.W.findIn X.K (.ref (Γ c)) "__bool__" = some none) (hs : PySem.W.findIn X.K (.ref (Γ c)) "__len__" = some (some (.ref fa))) (hf : PySem.W.isFn X.K (.ref fa) = true) (G : FnF Γ X.prog X.w X.K X.mg X.base k fa F) (hr : Room (k + 3) X.A) (pz : Pz X W) (hg : Gl X "bool") (hm : X.mg "bool" = none) (ha : SA Γ X W (e :: es) ga)
    (he : starEach (e :: es) X.env = (false, eval e X.env) :: starEach es X.env := by rfl) (hpl : (backTo pos (starEach es X.env)).any (·.1) = false := by rfl) : SE Γ X W (.Call (.Name "bool" p) (e :: es) [] pos) (eCall (opBoolLen c F) ga) := by
  refine ⟨fun pins s σ' H Q I h => ?_⟩
  obtain ⟨μ, σ, S, a, h⟩ := h
  refine wpAny_Call_Name_kw (ld_blt I hg hm rfl ?_)
  refine PyProof.Rows.callWith_type1 (thn (ha.run pos pins s σ' H (fun vs H1 => ∃ μ1 ds S1, Step μ H μ1 H1 ∧ MR Γ μ1 S1 H1 ∧ VRs Γ μ1 H1 ds vs ∧ (opBoolLen c F ds S1).Sat (KD Γ μ H Q) (KE Γ W X.N.length μ H)) I (tav_of a h.of_bind fun ds S1 μ1 vs H1 h1 s1 a1 r1 => ⟨μ1, ds, S1, s1, a1.mr, r1, h1⟩)) fun us s1 q => ?_) he hpl
  obtain ⟨vs, H1, I1, r, μ1, ds, S1, st, m1, vr, sat⟩ := q
  unfold opBoolLen at sat
  split at sat
  · rename_i d
    obtain ⟨v, rfl, r1⟩ := vr.one
    split at sat
    · rename_i hi
      obtain ⟨p1, dx, ws, rfl, hq⟩ := isIns_at m1 r1 hi
      obtain rfl := Vals.ref1 r
      obtain ⟨mA, O, _⟩ := ins_get I1.hok hq
      obtain ⟨od, J, _⟩ := O.look
      refine call_bool_own (truthy_len I1.kIn J hbo hs hf (thn (run_A (us := [.ref p1]) (vs := [.ref p1]) (Q := fun v H' => ∃ n : Int, v = .int n ∧ (0 ≤ n ∧ n < 2 ^ 63) ∧ Q (.bl (n != 0)) H') G hr.in1.in1.in1 I1.env0.in1.in1.in1 pz I1 (.cons rfl .nil) (.cons r1 .nil) m1 (Sat.inner st sat fun r S2 q => ?_)) ?_))
      · split at q
        · rename_i n
          split at q
          · rename_i hb
            intro μ' v' H' st' mr' rv
            cases rv
            exact ⟨n, rfl, hb, q μ' _ H' (st.trans st') mr' (.bl _)⟩
          · exact q.elim
        · exact q.elim
      · rintro v s' ⟨z, H', I', rz, n, rfl, hb, q⟩
        obtain ⟨t, rfl⟩ : ∃ t, v = Value.int n t := rz
        refine ⟨hb, fun n' t' e' => ?_⟩
        cases e'
        exact ⟨.bl (n != 0), H', I'.tok _, rfl, q⟩
    · exact sat.elim
  · exact sat.elim
theorem s_boolO (hs : PySem.W.findIn X.K (.ref (Γ c)) "__bool__" = some (some (.ref fa))) (hf : PySem.W.isFn X.K (.ref fa) = true) (G : FnF Γ X.prog X.w X.K X.mg X.base k fa F) (hr : Room (k + 2) X.A) (pz : Pz X W) (hg : Gl X "bool") (hm : X.mg "bool" = none) (ha : SA Γ X W (e :: es) ga)
    (he : starEach (e :: es) X.env = (false, eval e X.env) :: starEach es X.env := by rfl) (hpl : (backTo pos (starEach es X.env)).any (·.1) = false := by rfl) : SE Γ X W (.Call (.Name "bool" p) (e :: es) [] pos) (eCall (opBoolO c F) ga) := by
  refine ⟨fun pins s σ' H Q I h => ?_⟩
  obtain ⟨μ, σ, S, a, h⟩ := h
  refine wpAny_Call_Name_kw (ld_blt I hg hm rfl ?_)
  refine PyProof.Rows.callWith_type1 (thn (ha.run pos pins s σ' H (fun vs H1 => ∃ μ1 ds S1, Step μ H μ1 H1 ∧ MR Γ μ1 S1 H1 ∧ VRs Γ μ1 H1 ds vs ∧ (opBoolO c F ds S1).Sat (KD Γ μ H Q) (KE Γ W X.N.length μ H)) I (tav_of a h.of_bind fun ds S1 μ1 vs H1 h1 s1 a1 r1 => ⟨μ1, ds, S1, s1, a1.mr, r1, h1⟩)) fun us s1 q => ?_) he hpl
  obtain ⟨vs, H1, I1, r, μ1, ds, S1, st, m1, vr, sat⟩ := q
  unfold opBoolO at sat
  split at sat
  · rename_i d
    obtain ⟨v, rfl, r1⟩ := vr.one
    split at sat
    · rename_i hi
      obtain ⟨p1, dx, ws, rfl, hq⟩ := isIns_at m1 r1 hi
      obtain rfl := Vals.ref1 r
      obtain ⟨mA, O, _⟩ := ins_get I1.hok hq
      obtain ⟨od, J, _⟩ := O.look
      obtain ⟨_, hF⟩ := I1.fr
      refine call_bool_own (PySem.W.truthy_K hF I1.ok.mod.kin J hs hf (thn (run_A (us := [.ref p1]) (vs := [.ref p1]) (Q := fun v H' => ∃ b : Bool, v = .bl b ∧ Q (.bl b) H') G hr.in1.in1 I1.env0.in1.in1 pz I1 (.cons rfl .nil) (.cons r1 .nil) m1 (Sat.inner st sat fun r S2 q => ?_)) ?_))
      · split at q
        · rename_i b
          intro μ' v' H' st' mr' rv
          cases rv
          exact ⟨b, rfl, q μ' _ H' (st.trans st') mr' (.bl _)⟩
        · exact q.elim
      · rintro v s' ⟨z, H', I', rz, b, rfl, q⟩
        obtain rfl : v = Value.bool b := rz
        exact ⟨.bl b, H', I', rfl, q⟩
    · exact sat.elim
  · exact sat.elim
end
end Ev
namespace Ev
open PySem PySem.Spec PyProof.Rows L2
/-! ### methods of lists -/
abbrev OpM := D → List D → Sto → Res D
def RdM (Γ : Nat → Addr) (W : WX) (K : PySem.W.Frag) (r : V → List V → Hp → VK → Prop) (op : OpM) : Prop :=
  ∀ (H2 : Hp) (Q : VK) (x : V) (vs : List V) (μ : Mp) (d : D) (ds : List D) (S : Sto) (n : Nat), VR Γ μ H2 d x → VRs Γ μ H2 ds vs → MR Γ μ S H2 → (op d ds S).Sat (KD Γ μ H2 Q) (KE Γ W n μ H2) → r x vs H2 Q
def eBm (op : OpM) (f : F1) (g : FA) : F1 := fun σ S => (f σ S).bind fun d S1 => match seqA d S1 with
  | some _ => (g σ S1).bind fun ds S2 => op d ds S2
  | none => .no
section
variable {Γ : Nat → Addr} {W : WX} {X : Cx} {pos apos cpos p2 : Pos} {e o : Expr} {es : List Expr} {f : F1} {g : FA} {op : OpM} {r : V → List V → Hp → VK → Prop} {name : Str} {id : String}
theorem s_bm (slot : Slot "list" name id) (hty : typeOf (.builtin id) = pure (.type "method_descriptor")) (hm : MtR X id r) (hk : RdM Γ W X.K r op) (ho : SE Γ X W o f) (ha : SA Γ X W (e :: es) g)
    (hbase : attributeBase o name X.env (eval o X.env) = eval o X.env := by rfl)
    (hfew : ((backTo cpos (starEach (e :: es) X.env)).all (fun x => !x.1) && (backToKw cpos (keywordEach [] X.env)).all (fun x => x.1.isSome)
      && decide ((e :: es).length + ([] : List Keyword).length + (if ([] : List Keyword).isEmpty then 0 else 1) < 30)) = true := by rfl)
    (hline : (apos.endLine == cpos.line) = true := by rfl) (hs : starEach (e :: es) X.env = (false, eval e X.env) :: starEach es X.env := by rfl) (hplain : (backTo cpos (starEach es X.env)).any (·.1) = false := by rfl) :
    SE Γ X W (.Call (.Attribute o name apos) (e :: es) [] cpos) (eBm op f g) := by
  refine PE.imp (pe_bm PySem.F.plainAttrs_list slot hty hm ho ha hbase hfew hline hs hplain) fun σ' H Q h => ?_
  obtain ⟨μ, σ, S, a, h⟩ := h
  refine tev_of a h.of_bind fun d S1 μ1 v1 H1 h1 s1 a1 r1 => ?_
  split at h1
  · rename_i xs ex
    obtain ⟨p, vs, rfl, hq, rs⟩ := seqA_at X.K a1.mr r1 ex
    refine ⟨.inl ⟨rfl, vs, hq⟩, ?_⟩
    refine tav_of a1 (h1.of_bind.mono (fun _ _ z => z) fun _ _ => KE.mono s1) fun ds S2 μ2 ws H2 h2 s2 a2 r2 => ?_
    exact hk H2 Q _ ws μ2 d ds S2 X.N.length (r1.mono s2) r2 a2.mr (Sat.later (s1.trans s2) h2)
  · exact h1.elim
theorem s_bm0 (slot : Slot "list" name id) (hty : typeOf (.builtin id) = pure (.type "method_descriptor")) (hm : MtR X id r) (hk : RdM Γ W X.K r op) (ho : SE Γ X W o f)
    (hbase : attributeBase o name X.env (eval o X.env) = eval o X.env := by rfl) (hline : (apos.endLine == cpos.line) = true := by rfl) : SE Γ X W (.Call (.Attribute o name apos) [] [] cpos) (eBm op f aNil) := by
  refine PE.imp (pe_bm0 PySem.F.plainAttrs_list slot hty hm ho hbase hline) fun σ' H Q h => ?_
  obtain ⟨μ, σ, S, a, h⟩ := h
  refine tev_of a h.of_bind fun d S1 μ1 v1 H1 h1 s1 a1 r1 => ?_
  split at h1
  · rename_i xs ex
    obtain ⟨p, vs, rfl, hq, rs⟩ := seqA_at X.K a1.mr r1 ex
    exact ⟨.inl ⟨rfl, vs, hq⟩, hk H1 Q _ [] μ1 d [] S1 X.N.length r1 .nil a1.mr (Sat.later s1 h1)⟩
  · exact h1.elim
def opAppend : OpM := fun d ds S => match d, ds with
  | .loc n, [y] => match S[n]? with
    | some (.lst xs) => if xs.length < line then .ok .non (S.set n (.lst (xs ++ [y]))) else .no
    | _ => .no
  | _, _ => .no
theorem rd_append : RdM Γ W X.K rAppend opAppend := by
  intro H Q x vs μ d ds S n rx rv m sat
  unfold opAppend at sat
  split at sat
  · rename_i n y
    split at sat
    · rename_i xs ex
      split at sat
      · rename_i hl
        obtain ⟨w, rfl, ry⟩ := rv.one
        obtain ⟨p, rfl, hp, oo⟩ := cell_at m rx ex
        cases oo with
        | lst eh rs =>
          have st : ∀ u, Step μ H μ (upd H p u) := fun u => step_set m hp
          exact ⟨p, _, w, rfl, rfl, eh, by rw [← rs.length]; exact line_lt hl, KD.here (KD.mono (st _) sat) (m.write hp (.lst upd_same ((rs.append (.cons ry .nil)).mono (st _)))) .non⟩
      · exact sat.elim
    · exact sat.elim
  · exact sat.elim
def opPop : OpM := fun d ds S => match d, ds with
  | .loc n, [] => match S[n]? with
    | some (.lst xs) => match xs[xs.length - 1]? with
      | some y => .ok y (S.set n (.lst xs.dropLast))
      | none => .no
    | _ => .no
  | _, _ => .no
theorem VRs.dropLast {μ : Mp} {H : Hp} {xs : List D} {us : List V} (h : VRs Γ μ H xs us) : VRs Γ μ H xs.dropLast us.dropLast := by
  rw [List.dropLast_eq_take, List.dropLast_eq_take, h.length]
  exact h.take _
theorem rd_pop : RdM Γ W X.K rPop opPop := by
  intro H Q x vs μ d ds S n rx rv m sat
  unfold opPop at sat
  split at sat
  · rename_i n
    split at sat
    · rename_i xs ex
      split at sat
      · rename_i y ey
        cases rv
        obtain ⟨p, rfl, hp, oo⟩ := cell_at m rx ex
        cases oo with
        | lst eh rs =>
          have st : ∀ u, Step μ H μ (upd H p u) := fun u => step_set m hp
          obtain ⟨w, ew, rw'⟩ := rs.get ey
          exact ⟨p, _, w, rfl, rfl, eh, by rw [← rs.length]; exact ew, KD.here (KD.mono (st _) sat) (m.write hp (.lst upd_same (rs.dropLast.mono (st _)))) (rw'.mono (st _))⟩
      · exact sat.elim
    · exact sat.elim
  · exact sat.elim
def opPopAt : OpM := fun d ds S => match d, ds with
  | .loc n, [.int i] => match S[n]? with
    | some (.lst xs) => if -(2 ^ 63) ≤ i ∧ i < 2 ^ 63 then match seqIndex? i xs.length with
      | some k => match xs[k]? with
        | some y => .ok y (S.set n (.lst (xs.eraseIdx k)))
        | none => .no
      | none => .no else .no
    | _ => .no
  | _, _ => .no
theorem rd_popAt : RdM Γ W X.K rPopAt opPopAt := by
  intro H Q x vs μ d ds S n rx rv m sat
  unfold opPopAt at sat
  split at sat
  · rename_i n i
    split at sat
    · rename_i xs ex
      split at sat
      · rename_i hb
        split at sat
        · rename_i k ek
          split at sat
          · rename_i y ey
            obtain ⟨w0, rfl, ri⟩ := rv.one
            cases ri
            obtain ⟨p, rfl, hp, oo⟩ := cell_at m rx ex
            cases oo with
            | lst eh rs =>
              have st : ∀ u, Step μ H μ (upd H p u) := fun u => step_set m hp
              obtain ⟨w, ew, rw'⟩ := rs.get ey
              exact ⟨p, _, i, k, w, rfl, rfl, eh, hb.1, hb.2, by rw [← rs.length]; exact ek, ew, KD.here (KD.mono (st _) sat) (m.write hp (.lst upd_same ((rs.eraseIdx k).mono (st _)))) (rw'.mono (st _))⟩
          · exact sat.elim
        · exact sat.elim
      · exact sat.elim
    · exact sat.elim
  · exact sat.elim
def opClear : OpM := fun d ds S => match d, ds with
  | .loc n, [] => match S[n]? with
    | some (.lst _) => .ok .non (S.set n (.lst []))
    | _ => .no
  | _, _ => .no
theorem rd_clear : RdM Γ W X.K rClear opClear := by
  intro H Q x vs μ d ds S n rx rv m sat
  unfold opClear at sat
  split at sat
  · rename_i n
    split at sat
    · rename_i xs ex
      cases rv
      obtain ⟨p, rfl, hp, oo⟩ := cell_at m rx ex
      cases oo with
      | lst eh rs =>
        have st : ∀ u, Step μ H μ (upd H p u) := fun u => step_set m hp
        exact ⟨p, _, rfl, rfl, eh, KD.here (KD.mono (st _) sat) (m.write hp (.lst upd_same .nil)) .non⟩
    · exact sat.elim
  · exact sat.elim
end
/-! ### slices -/
abbrev FO := Sg → Sto → Res (Option Int)
def KOp (Γ : Nat → Addr) (μ : Mp) (H : Hp) (Q : Option Int → Hp → Prop) : Option Int → Sto → Prop := fun d S' => ∀ μ' H', Step μ H μ' H' → MR Γ μ' S' H' → Q d H'
def TOv (Γ : Nat → Addr) (W : WX) (k : Nat) (f : FO) : TO := fun σ' H Q => ∃ μ σ S, At Γ k μ H σ S σ' ∧ (f σ S).Sat (KOp Γ μ H Q) (KE Γ W k μ H)
def SO (Γ : Nat → Addr) (X : Cx) (W : WX) (e : Option Expr) (f : FO) : Prop := PO X e (TOv Γ W X.N.length f)
def oNone : FO := fun _ S => .ok none S
def oSome (f : F1) : FO := fun σ S => (f σ S).bind fun d S1 => match d with
  | .int i => .ok (some i) S1
  | _ => .no
def cutD (xs : List D) (lo hi : Option Int) : List D := (xs.drop (HT.sIx xs.length 0 lo)).take (HT.sIx xs.length xs.length hi - HT.sIx xs.length 0 lo)
def opCut (x : D) (lo hi : Option Int) (S : Sto) : Res D := match x with
  | .tup xs => .ok (.tup (cutD xs lo hi)) S
  | d => match seqA d S with
    | some xs => .ok (.lst (cutD xs lo hi)) S
    | none => .no
def eCut (f : F1) (g h : FO) : F1 := fun σ S => (f σ S).bind fun x S1 => (g σ S1).bind fun l S2 => (h σ S2).bind fun u S3 => opCut x l u S3
section
variable {Γ : Nat → Addr} {W : WX} {X : Cx} {pos apos cpos p1 p2 p3 : Pos} {e o : Expr} {lo hi : Option Expr} {f : F1} {g h : FO}
theorem PO.imp {e : Option Expr} {t t' : TO} (h : PO X e t) (hi : ∀ σ H Q, t' σ H Q → t σ H Q) : PO X e t' := ⟨fun pins s σ H Q I q => h.run pins s σ H Q I (hi _ _ _ q)⟩
theorem o_none : SO Γ X W none oNone := PO.imp po_none fun σ' H Q h => by
  obtain ⟨μ, σ, S, a, h⟩ := h
  exact h μ H Step.refl a.mr
theorem o_some (he : SE Γ X W e f) : SO Γ X W (some e) (oSome f) := PO.imp (po_some he) fun σ' H Q h => by
  obtain ⟨μ, σ, S, a, h⟩ := h
  refine tev_of a h.of_bind fun d S1 μ1 v1 H1 h1 s1 a1 r1 => ?_
  split at h1
  · cases r1
    exact ⟨_, rfl, h1 μ1 H1 s1 a1.mr⟩
  · exact h1.elim
theorem VRs.cutD {μ : Mp} {H : Hp} {xs : List D} {vs : List V} (r : VRs Γ μ H xs vs) (lo hi : Option Int) : VRs Γ μ H (cutD xs lo hi) (cutV vs lo hi) := by
  unfold Ev.cutD cutV
  rw [r.length]
  exact (r.drop _).take _
theorem cut_whole (xs : List D) (lo hi : Option Int) (h : HT.sIx xs.length 0 lo = 0 ∧ HT.sIx xs.length xs.length hi = xs.length) : cutD xs lo hi = xs := by
  unfold cutD
  rw [h.1, h.2]
  simp
theorem SlR.or' {r r' : V → Option Int → Option Int → Hp → VK → Prop} (h : SlR X r) (h' : SlR X r') : SlR X (fun x lo hi H Q => r x lo hi H Q ∨ r' x lo hi H Q) := SlR.or h h'
theorem s_cut (he : SE Γ X W e f) (hl : SO Γ X W lo g) (hu : SO Γ X W hi h) : SE Γ X W (.Subscript e (.Slice lo hi none p2) pos) (eCut f g h) := by
  refine PE.imp (pe_slice (SlR.or sl_tupA sl_list) he hl hu) fun σ' H Q q => ?_
  obtain ⟨μ, σ, S, a, q⟩ := q
  refine tev_of a q.of_bind fun d S1 μ1 v1 H1 q1 s1 a1 r1 => ?_
  refine ⟨μ1, σ, S1, a1, q1.of_bind.mono (fun l S2 q2 μ2 H2 s2 m2 => ?_) fun _ _ => KE.mono s1⟩
  refine ⟨μ2, σ, S2, a1.mono s2 m2, q2.of_bind.mono (fun u S3 q3 μ3 H3 s3 m3 => ?_) fun _ _ => KE.mono (s1.trans s2)⟩
  have st := (s1.trans s2).trans s3
  have rd := r1.mono (s2.trans s3)
  unfold opCut at q3
  split at q3
  · rename_i xs
    obtain ⟨p, vs, rfl, hq, rs⟩ := tup_at X.K rd
    refine .inl ⟨p, vs, rfl, hq, fun hw => ?_, fun _ p' hp => ?_⟩
    · rw [← rs.length] at hw
      rw [cut_whole xs l u hw] at q3
      exact KD.here (KD.mono st q3) m3 rd
    · exact KD.newT (KD.mono st q3) m3 (rs.cutD l u) hp
  · split at q3
    · rename_i xs ex
      obtain ⟨p, vs, rfl, hq, rs⟩ := seqA_at X.K m3 rd ex
      exact .inr ⟨p, vs, rfl, hq, fun p' hp => KD.newL (KD.mono st q3) m3 (rs.cutD l u) hp⟩
    · exact q3.elim
/-- xs[::-1] -/
def eRevL (f : F1) : F1 := fun σ S => (f σ S).bind fun x S1 => match seqA x S1 with
  | some xs => .ok (.lst xs.reverse) S1
  | none => .no
theorem s_revL {k : Nat} (he : SE Γ X W e f) : SE Γ X W (.Subscript e (.Slice none none (some (.UnaryOp .USub (.Constant (.int 1) k p1) p2)) p3) pos) (eRevL f) := by
  refine PE.imp (pe_revL he) fun σ' H Q q => ?_
  obtain ⟨μ, σ, S, a, q⟩ := q
  refine tev_of a q.of_bind fun d S1 μ1 v1 H1 q1 s1 a1 r1 => ?_
  split at q1
  · rename_i xs ex
    obtain ⟨p, vs, rfl, hq, rs⟩ := seqA_at X.K a1.mr r1 ex
    exact ⟨p, vs, rfl, hq, fun p' hp => KD.newL (KD.mono s1 q1) a1.mr rs.reverse hp⟩
  · exact q1.elim
end
end Ev
namespace Ev
open PySem PySem.Spec PyProof.Rows L2
/-! ### isinstance(x, (T, ..)) -/
def isTag : D → Bool
  | .ty _ => true
  | .gl _ => true
  | _ => false
section
variable {Γ : Nat → Addr} {W : WX} {X : Cx}
theorem tags_at {μ : Mp} {H : Hp} : ∀ {cs : List D} {vs : List V}, VRs Γ μ H cs vs → cs.all isTag = true → Paired ClsV vs (cs.map (tagV Γ))
  | _, _, .nil, _ => .nil
  | _, _, .cons r rs, h => by
    rw [List.all_cons] at h
    obtain ⟨a, b⟩ := Bool.and_eq_true_iff.mp h
    refine .cons ?_ (tags_at rs b)
    cases r <;> first | exact .ty _ | exact .own _ | (unfold isTag at a; cases a)
def opIsiT (own : Nat → Bool) (ka : D → List D → Option Bool) : OpC := fun ds S => match ds with
  | [d, .tup cs] => match tagOf d S with
    | some t => if isCls own t = true ∧ cs.all isTag = true then match ka t cs with
      | some b => .ok (.bl b) S
      | none => .no else .no
    | none => .no
  | _ => .no
theorem rd_isiT {own : Nat → Bool} {ka : D → List D → Option Bool} (hI : ∀ c, own c = true → ClsI X.K (Γ c)) (hk : ∀ t cs b, ka t cs = some b → PySem.W.kitAny X.K (tagV Γ t) (cs.map (tagV Γ)) = some b) : RdC Γ W (rIsiT X.K) (opIsiT own ka) := by
  intro H Q vs μ ds S n rv m sat
  unfold opIsiT at sat
  split at sat
  · obtain ⟨v, w, rfl, r, r2⟩ := rv.two
    split at sat
    · rename_i t e
      split at sat
      · rename_i ho
        split at sat
        · rename_i b e2
          cases r2 with
          | tup nm hp rs => exact ⟨v, _, _, tagV Γ t, _, b, rfl, hp, tags_at rs ho.2, tag_at X.K hI m r e ho.1, hk _ _ _ e2, KD.here sat m (.bl _)⟩
        · exact sat.elim
      · exact sat.elim
    · exact sat.elim
  · exact sat.elim
end
/-! ### list(range(..)), tuple(range(..)) -/
def rgD (a b : Int) : List D := (List.range (b - a).toNat).map fun i => D.int (a + (i : Nat))
def eRg1 (tup : Bool) (f : F1) : F1 := fun σ S => (f σ S).bind fun d S1 => match d with
  | .int n => if -(2 ^ 24) ≤ n ∧ n ≤ 2 ^ 24 then .ok (cond tup (.tup (rgD 0 n)) (.lst (rgD 0 n))) S1 else .no
  | _ => .no
def eRg2 (tup : Bool) (f g : F1) : F1 := fun σ S => (f σ S).bind fun x S1 => (g σ S1).bind fun y S2 => match x, y with
  | .int a, .int b => if -(2 ^ 24) ≤ a ∧ a ≤ 2 ^ 24 ∧ -(2 ^ 24) ≤ b ∧ b ≤ 2 ^ 24 ∧ b - a ≤ 2 ^ 24 then .ok (cond tup (.tup (rgD a b)) (.lst (rgD a b))) S2 else .no
  | _, _ => .no
section
variable {Γ : Nat → Addr} {W : WX} {X : Cx} {p pos p2 pos2 : Pos} {a b : Expr} {f g : F1}
theorem rg_at {μ : Mp} {H : Hp} (i j : Int) : VRs Γ μ H (rgD i j) (rgV i j) := by
  unfold rgD rgV
  generalize List.range (j - i).toNat = l
  induction l with
  | nil => exact .nil
  | cons x r ih => rw [List.map_cons, List.map_cons]; exact .cons (.int _) ih
theorem s_tupRg1 (hc : X.calm = true) (hg : Gl X "tuple") (hm : X.mg "tuple" = none) (hg2 : Gl X "range") (hm2 : X.mg "range" = none) (ha : SE Γ X W a f) (na : starEach [a] X.env = (false, eval a X.env) :: starEach [] X.env := by rfl)
    (nr : starEach [.Call (.Name "range" p2) [a] [] pos2] X.env = (false, eval (.Call (.Name "range" p2) [a] [] pos2) X.env) :: starEach [] X.env := by rfl) :
    SE Γ X W (.Call (.Name "tuple" p) [.Call (.Name "range" p2) [a] [] pos2] [] pos) (eRg1 true f) := by
  refine PE.imp (pe_tupRg hc hg hm (prg_1 hg2 hm2 ha na) nr) fun σ' H Q q => ?_
  obtain ⟨μ, σ, S, a0, q⟩ := q
  refine tev_of a0 q.of_bind fun d S1 μ1 v1 H1 q1 s1 a1 r1 => ?_
  split at q1
  · rename_i n
    cases r1
    split at q1
    · rename_i hb
      exact ⟨n, rfl, ⟨by omega, by omega, by omega, by omega, by omega⟩, fun q hq => KD.newT (KD.mono s1 q1) a1.mr (rg_at 0 n) hq⟩
    · exact q1.elim
  · exact q1.elim
theorem s_tupRg2 (hc : X.calm = true) (hg : Gl X "tuple") (hm : X.mg "tuple" = none) (hg2 : Gl X "range") (hm2 : X.mg "range" = none) (ha : SE Γ X W a f) (hb : SE Γ X W b g) (na : starEach [a, b] X.env = (false, eval a X.env) :: starEach [b] X.env := by rfl)
    (nb : starEach [b] X.env = (false, eval b X.env) :: starEach [] X.env := by rfl) (hp : (backTo pos2 (starEach [b] X.env)).any (·.1) = false := by rfl)
    (nr : starEach [.Call (.Name "range" p2) [a, b] [] pos2] X.env = (false, eval (.Call (.Name "range" p2) [a, b] [] pos2) X.env) :: starEach [] X.env := by rfl) :
    SE Γ X W (.Call (.Name "tuple" p) [.Call (.Name "range" p2) [a, b] [] pos2] [] pos) (eRg2 true f g) := by
  refine PE.imp (pe_tupRg hc hg hm (prg_2 hg2 hm2 ha hb na nb hp) nr) fun σ' H Q q => ?_
  obtain ⟨μ, σ, S, a0, q⟩ := q
  refine tev_of a0 q.of_bind fun d S1 μ1 v1 H1 q1 s1 a1 r1 => ?_
  refine tev_of a1 (q1.of_bind.mono (fun _ _ z => z) fun _ _ => KE.mono s1) fun y S2 μ2 v2 H2 q2 s2 a2 r2 => ?_
  split at q2
  · rename_i i j
    cases r1
    cases r2
    split at q2
    · rename_i hb
      exact ⟨i, j, rfl, rfl, ⟨by omega, by omega, by omega, by omega, by omega⟩, fun q hq => KD.newT (KD.mono (s1.trans s2) q2) a2.mr (rg_at i j) hq⟩
    · exact q2.elim
  · exact q2.elim
theorem s_listRg1 (hc : X.calm = true) (hg : Gl X "list") (hm : X.mg "list" = none) (hg2 : Gl X "range") (hm2 : X.mg "range" = none) (ha : SE Γ X W a f) (na : starEach [a] X.env = (false, eval a X.env) :: starEach [] X.env := by rfl)
    (nr : starEach [.Call (.Name "range" p2) [a] [] pos2] X.env = (false, eval (.Call (.Name "range" p2) [a] [] pos2) X.env) :: starEach [] X.env := by rfl) :
    SE Γ X W (.Call (.Name "list" p) [.Call (.Name "range" p2) [a] [] pos2] [] pos) (eRg1 false f) := by
  refine PE.imp (pe_listRg hc hg hm (prg_1 hg2 hm2 ha na) nr) fun σ' H Q q => ?_
  obtain ⟨μ, σ, S, a0, q⟩ := q
  refine tev_of a0 q.of_bind fun d S1 μ1 v1 H1 q1 s1 a1 r1 => ?_
  split at q1
  · rename_i n
    cases r1
    split at q1
    · rename_i hb
      exact ⟨n, rfl, ⟨by omega, by omega, by omega, by omega, by omega⟩, fun q hq => KD.newL (KD.mono s1 q1) a1.mr (rg_at 0 n) hq⟩
    · exact q1.elim
  · exact q1.elim
theorem s_listRg2 (hc : X.calm = true) (hg : Gl X "list") (hm : X.mg "list" = none) (hg2 : Gl X "range") (hm2 : X.mg "range" = none) (ha : SE Γ X W a f) (hb : SE Γ X W b g) (na : starEach [a, b] X.env = (false, eval a X.env) :: starEach [b] X.env := by rfl)
    (nb : starEach [b] X.env = (false, eval b X.env) :: starEach [] X.env := by rfl) (hp : (backTo pos2 (starEach [b] X.env)).any (·.1) = false := by rfl)
    (nr : starEach [.Call (.Name "range" p2) [a, b] [] pos2] X.env = (false, eval (.Call (.Name "range" p2) [a, b] [] pos2) X.env) :: starEach [] X.env := by rfl) :
    SE Γ X W (.Call (.Name "list" p) [.Call (.Name "range" p2) [a, b] [] pos2] [] pos) (eRg2 false f g) := by
  refine PE.imp (pe_listRg hc hg hm (prg_2 hg2 hm2 ha hb na nb hp) nr) fun σ' H Q q => ?_
  obtain ⟨μ, σ, S, a0, q⟩ := q
  refine tev_of a0 q.of_bind fun d S1 μ1 v1 H1 q1 s1 a1 r1 => ?_
  refine tev_of a1 (q1.of_bind.mono (fun _ _ z => z) fun _ _ => KE.mono s1) fun y S2 μ2 v2 H2 q2 s2 a2 r2 => ?_
  split at q2
  · rename_i i j
    cases r1
    cases r2
    split at q2
    · rename_i hb
      exact ⟨i, j, rfl, rfl, ⟨by omega, by omega, by omega, by omega, by omega⟩, fun q hq => KD.newL (KD.mono (s1.trans s2) q2) a2.mr (rg_at i j) hq⟩
    · exact q2.elim
  · exact q2.elim
end
/-! ### def f(a, .., *v) -/
def runBS (n m : Nat) (g : FS) : Fd := fun ds S => if m ≤ ds.length ∧ ds.length ≤ line then endD (g (startD n (ds.take m ++ [.tup (ds.drop m)])) S) else .no
section
variable {Γ : Nat → Addr} {P : Program} {w : World} {K : PySem.W.Frag} {mg : Str → Option Value} {base : Heap}
theorem KX.mono {μ μ1 : Mp} {H H1 : Hp} {E : XK} (s : Step μ H μ1 H1) {x : XV} {S : Sto} (h : KX Γ μ H E x S) : KX Γ μ1 H1 E x S := fun μ' H' cls d st m xr => h μ' H' cls d (s.trans st) m xr
theorem fn_bodyS {x qual : Str} {st : Stmt} {f : Addr} {fd : FuncData} {N ps : List Str} {pv : Str} {k : Nat} {g : FS} (F : Fun K x qual st f fd) (Sc : FnScope N (ps ++ [pv]) (defScope st))
    (hb : ∀ us rest : List Value, us.length = ps.length → bindArgs fd ⟨us ++ rest, []⟩ = (newTuple rest >>= fun t => pure (ps.zip us ++ [(pv, t)]))) (hN : (ps ++ [pv]).length ≤ N.length) (hCX : StX.CXUp (L2.CX P w))
    (body : ∀ (cdv : Value) (A : Around) (outer : List Env) (s : Shared) (H : Hp) (E : XK), Room k (A.deeper (envOfC qual (defScope st) s.heap.objs.size f cdv)) →
      SB Γ (cxOf (L2.CX P w) P w K mg base N qual (defScope st) f cdv A outer s H E) (fun cls d _ H => E cls d H) (defBody st) g) :
    FnF Γ P w K mg base (k + 1) f (runBS N.length ps.length g) := by
  obtain ⟨oc, od, kV, doc, pm, an, cdv, ct, osl, rfl, lk, hcd⟩ := F.ex
  have R := StX.fn_star (P := P) (w := w) (mg := mg) (base := base) (CX := L2.CX P w) (k := k) (sp := spF Γ (runB N.length (ps ++ [pv]).length g)) lk hcd Sc hCX hb (fun A outer s H vs Q E hr h => ?_)
  · intro A outer s H us vs Q E hr e0 r hsp
    refine R A outer s H us vs Q E hr e0 r ?_
    obtain ⟨μ, ds, S, rv, m, sat⟩ := hsp
    unfold runBS at sat
    split at sat
    · rename_i hl
      have e := rv.length
      refine ⟨vs.take ps.length, vs.drop ps.length, (List.take_append_drop _ _).symm, by rw [List.length_take]; omega, by rw [List.length_drop]; have := line_le hl.2; omega, fun p hp => ?_⟩
      have st : Step μ H μ (upd H p (.tup (vs.drop ps.length))) := Step.new hp
      refine ⟨μ, ds.take ps.length ++ [.tup (ds.drop ps.length)], S, ((rv.mono st).take _).append (.cons (.tup (m.fresh hp) upd_same ((rv.mono st).drop _)) .nil), m.new hp, ?_⟩
      unfold runB
      rw [if_pos (by simp only [List.length_append, List.length_take, List.length_cons, List.length_nil]; omega)]
      exact sat.mono (fun _ _ z => KD.mono st z) fun _ _ z => KX.mono st z
    · exact sat.elim
  · obtain ⟨μ, ds, S, r, m, sat⟩ := h
    unfold runB at sat
    split at sat
    · rename_i hl
      refine ⟨_, body cdv A outer s H E hr, ?_⟩
      refine ⟨μ, startD N.length ds, S, (at_start (N := N) m r (by omega) : At Γ N.length μ H (startD N.length ds) S (L2.start N vs)), ?_⟩
      unfold endD at sat
      refine sat.of_bind.mono (fun o S1 q => ?_) fun x S1 q => ?_
      · cases o with
        | rt d => exact q
        | nx σ => exact fun μ' σ' H' s' a' => q μ' _ H' s' a'.mr .non
        | bk σ => exact q.elim
        | ct σ => exact q.elim
      · exact fun μ' H' cls d σ1 s' m' xr _ => q μ' H' cls d s' m' xr
    · exact sat.elim
end
/-! ### C.m(..), a classmethod -/
def eCm (c : Nat) (F : Fd) (f : F1) (g : FA) : F1 := fun σ S => (f σ S).bind fun d S1 => match d with
  | .gl c' => if c' = c then (g σ S1).bind fun ds S2 => F (.gl c :: ds) S2 else .no
  | _ => .no
section
variable {Γ : Nat → Addr} {W : WX} {X : Cx} {k : Nat} {F : Fd} {pos apos : Pos} {e o : Expr} {es : List Expr} {f : F1} {ga : FA} {c : Nat} {fa pa : Addr} {mc : Value} {m : Str} {pl : Sem Bool}
theorem s_cmeth (he : SE Γ X W o f) (r : ClX.CRead X.K (Γ c) mc) (cm : ClX.CMet X.K (Γ c) mc m pa fa) (G : FnF Γ X.prog X.w X.K X.mg X.base k fa F) (hr : Room k X.A) (pz : Pz X W) (ha : SA Γ X W (e :: es) ga)
    (hst : starEach (e :: es) X.env = (false, eval e X.env) :: starEach es X.env := by rfl) (hpl : (backTo pos (starEach es X.env)).any (·.1) = false := by rfl)
    (ht : eval (.Call (.Attribute o m apos) (e :: es) [] pos) X.env = (do
      let ov ← eval o X.env
      standAt apos.atName
      let (f, first) ← holding [ov] (getMethod ov m pl)
      callWith pos f first (backTo pos (starEach (e :: es) X.env)) (backToKw pos (keywordEach [] X.env))) := by rfl) :
    SE Γ X W (.Call (.Attribute o m apos) (e :: es) [] pos) (eCm c F f ga) := by
  refine ⟨fun pins s σ' H Q I h => ?_⟩
  obtain ⟨μ, σ, S, a, h⟩ := h
  refine PySem.W.methodCall_KW (pl := pl) (thn (he.run pins s σ' H (fun v1 H1 => v1 = .ref (Γ c) ∧ ∃ μ1 S1, Step μ H μ1 H1 ∧ At Γ X.N.length μ1 H1 σ S1 σ' ∧ Res.Sat ((ga σ S1).bind fun ds S2 => F (.gl c :: ds) S2) (KD Γ μ H Q) (KE Γ W X.N.length μ H)) I (tev_of a h.of_bind fun d S1 μ1 v1 H1 q1 s1 a1 r1 => ?_)) fun u s1 q => ?_) ht
  · split at q1
    · rename_i c'
      split at q1
      · rename_i hc
        subst hc
        cases r1
        exact ⟨rfl, μ1, S1, s1, a1, q1⟩
      · exact q1.elim
    · exact q1.elim
  · obtain ⟨v1, H1, I1, rv, rfl, μ1, S1, st, a1, q1⟩ := q
    obtain rfl : u = Value.ref (Γ c) := rv
    refine ClX.getmethcm_ok I1 r cm fun s2 I2 => ?_
    refine ClX.callwith_cm I2 (ClX.base_none I1 (Nat.le_refl _)) cm.fi (thn (ha.run pos _ s2 σ' H1 (fun vs H2 => ∃ μ2 ds S2, Step μ1 H1 μ2 H2 ∧ MR Γ μ2 S2 H2 ∧ VRs Γ μ2 H2 ds vs ∧ (F (.gl c :: ds) S2).Sat (KD Γ μ H Q) (KE Γ W X.N.length μ H)) I2 (tav_of a1 (q1.of_bind.mono (fun _ _ z => z) fun _ _ => KE.mono st) fun ds S2 μ2 vs H2 h2 s2 a2 r2 => ⟨μ2, ds, S2, s2, a2.mr, r2, h2⟩)) fun us s3 q => ?_) hst hpl
    obtain ⟨vs, H2, I3, rv, μ2, ds, S2, st2, m2, vr, sat⟩ := q
    refine ⟨⟨ClX.pin_at I3, I3.kIn⟩, ?_⟩
    refine thn (Q := EP X (_ :: pins) σ' Q) (wpAny_call (PySem.W.method_call (ClX.pin_at I3) (run_F (us := .ref (Γ c) :: us) (vs := .ref (Γ c) :: vs) G hr pz I3 (.cons rfl rv) (.cons (.gl _) vr) m2 (Sat.later (st.trans st2) sat)))) fun _ _ y => ClX.unpinE y
end
end Ev
namespace Ev
open PySem PySem.Spec PyProof.Rows L2
/-! ### a dict is known to its object from now on -/
section
variable {Γ : Nat → Addr} {W : WX} {X : Cx} {e : Expr} {μ : Mp} {H : Hp} {S : Sto}
theorem pe_frz {t : TE} (h : PE X e t) : PE X e (fun σ H Q => t σ H fun x H1 => Q x H1 ∨ ∃ d u, x = .ref d ∧ H1 d = some u ∧ Mut (some u) ∧ ∀ o, Q x (upd H1 d (.frz o u))) := by
  refine ⟨fun pins s σ H Q I q => ?_⟩
  refine thn (h.run pins s σ H _ I q) ?_
  rintro v s1 ⟨x, H1, I1, r, q | ⟨d, u, ex, hd, mu, q⟩⟩
  · exact ⟨x, H1, I1, r, q⟩
  · obtain ⟨od, I2⟩ := I1.lock hd mu
    exact ⟨x, _, I2, r, q od⟩
theorem step_frzK {p : Addr} {ob : Obj} {kvs : List (Key × V)} (n : p ∉ μ) (h : H p = some (.dK kvs)) : Step μ H μ (upd H p (.frz ob (.dK kvs))) := by
  refine ⟨⟨[], by simp⟩, rfl, fun q o e nq => ⟨nq, ?_⟩, fun q o hq e => ?_⟩
  · by_cases z : q = p
    · subst z
      rw [h] at e
      cases e
      exact .inr ⟨ob, upd_same, .inl ⟨kvs, rfl⟩⟩
    · rw [upd_ne z]
      exact .inl e
  · rw [upd_ne (fun z => n (by rw [← z]; exact .inr hq))]
    exact e
theorem MR.frz {p : Addr} {o : HO} (m : MR Γ μ S H) (n : p ∉ μ) (s : Step μ H μ (upd H p o)) : MR Γ μ S (upd H p o) := by
  refine ⟨m.len, m.nd, fun i u q hi hq => (m.ob i u q hi hq).mono s fun v e => ?_, fun q hq => ?_⟩
  · rw [upd_ne (fun z => n (by rw [← z]; exact .inl (List.mem_of_getElem? hq)))]
    exact e
  · obtain ⟨⟨v, e, t⟩, c⟩ := m.hd q hq
    exact ⟨⟨v, by rw [upd_ne (fun z => n (by rw [← z]; exact .inr hq))]; exact e, t⟩, c⟩
theorem KRs.at_key : ∀ {ds : List (Key × D)} {vs : List (Key × V)} {i : Nat} {k : Key} {v : V}, KRs Γ μ H ds vs → vs[i]? = some (k, v) → ∃ d, ds[i]? = some (k, d) ∧ VR Γ μ H d v
  | _, _, _, _, _, .nil, e => by simp at e
  | _, _, 0, _, _, .cons r _, e => by simp at e; obtain ⟨rfl, rfl⟩ := e; exact ⟨_, rfl, r⟩
  | _, _, i + 1, k, v, .cons _ t, e => by
    obtain ⟨d, h1, h2⟩ := KRs.at_key (i := i) (k := k) (v := v) t (by simpa using e)
    exact ⟨d, by simpa using h1, h2⟩
theorem KRs.keys : ∀ {ds : List (Key × D)} {vs : List (Key × V)}, KRs Γ μ H ds vs → vs.map (fun kv => kV kv.1) = (ds.map (·.1)).map kV
  | _, _, .nil => rfl
  | _, _, .cons _ b => by simp only [List.map_cons, KRs.keys b]
end
/-! ### for k in d -/
def keysD (kvs : List (Key × D)) : List D := kvs.map fun kv => keyD kv.1
def iKeysD (f : F1) : FI := fun σ S => (f σ S).bind fun d S1 => match d with
  | .dk kvs => .ok (keysD kvs) S1
  | _ => .no
section
variable {Γ : Nat → Addr} {W : WX} {X : Cx} {tg e : Expr} {es : List Expr} {f : F1} {g : FA} {p pos apos cpos : Pos}
theorem iw_keys {μ : Mp} {H : Hp} {q : Addr} {ob : Obj} {ds : List (Key × D)} {vs : List (Key × V)} (n : q ∉ μ) (h : H q = some (.frz ob (.dK vs))) (r : KRs Γ μ H ds vs) : IW Γ μ H (keysD ds) (Itk q ob vs) := by
  refine ⟨_, _, by rw [show (keysD ds).length = vs.length from by unfold keysD; rw [List.length_map]; exact r.length]; exact walk_keys, fun μ1 H1 s => (s.keep _ _ h n).2, ?_⟩
  rintro i μ1 H1 S1 x' H2 s m ⟨rfl, k, v, hv, rfl⟩
  obtain ⟨d, hd, _⟩ := r.at_key hv
  exact ⟨Step.refl, m, keyD k, by unfold keysD; rw [List.getElem?_map, hd]; rfl, kV_at k _ _⟩
theorem i_keys (he : SE Γ X W e f) : SI Γ X W tg e (iKeysD f) := by
  refine PI.imp (pi_keys (pe_frz he)) fun σ' H R h => ?_
  obtain ⟨μ, σ, S, a, h⟩ := h
  refine tev_of a h.of_bind fun d S1 μ1 v1 H1 h1 s1 a1 r1 => ?_
  split at h1
  · rename_i kvs
    cases r1 with
    | @dk _ vs q n rd rs =>
      rcases rd with rd | ⟨ob, rd⟩
      · refine .inr ⟨q, _, rfl, rd, trivial, fun ob => ⟨q, ob, rfl, .inl ⟨vs, upd_same, ?_⟩⟩⟩
        have st : Step μ1 H1 μ1 (upd H1 q (.frz ob (.dK vs))) := step_frzK n rd
        exact h1 μ1 _ _ (s1.trans st) (a1.mr.frz n st) (iw_keys n upd_same (rs.mono st))
      · exact .inl ⟨q, ob, rfl, .inl ⟨vs, rd, h1 μ1 _ _ s1 a1.mr (iw_keys n rd rs)⟩⟩
  · exact h1.elim
/-! ### list(d) -/
def opListD : OpC := fun ds S => match ds with
  | [d] => match dictK d S with
    | some kvs => .ok (.lst (keysD kvs)) S
    | none => .no
  | _ => .no
theorem keys_at {μ : Mp} {H : Hp} : ∀ (ks : List Key), VRs Γ μ H (ks.map keyD) (ks.map kV)
  | [] => .nil
  | k :: r => .cons (kV_at k _ _) (keys_at r)
theorem rd_listD : RdC Γ W (fun xs H Q => ∃ (a : Addr) (kvs : List (Key × V)), xs = [.ref a] ∧ Rd H a (.dK kvs) ∧ ∀ p, H p = none → Q (.ref p) (upd H p (.lst (kvs.map fun kv => kV kv.1)))) opListD := by
  intro H Q vs μ ds S n rv m sat
  unfold opListD at sat
  split at sat
  · obtain ⟨v, rfl, r⟩ := rv.one
    split at sat
    · rename_i kvs ek
      obtain ⟨q, ws, rfl, rd, rs⟩ := dictK_at m r ek
      refine ⟨q, ws, rfl, rd, fun p' hp => KD.newL sat m ?_ hp⟩
      rw [rs.keys, show keysD kvs = (kvs.map (·.1)).map keyD from by unfold keysD; rw [List.map_map]; rfl]
      exact keys_at _
    · exact sat.elim
  · exact sat.elim
/-! ### list(d.items()) -/
def itemsD (kvs : List (Key × D)) : List D := kvs.map fun kv => .tup [keyD kv.1, kv.2]
def eItems (f : F1) : F1 := fun σ S => (f σ S).bind fun d S1 => match dictK d S1 with
  | some kvs => .ok (.lst (itemsD kvs)) S1
  | none => .no
theorem items_at {μ : Mp} {H H' : Hp} (new : ∀ t, H t = none → t ∉ μ) : ∀ {ts : List Addr} {ds : List (Key × D)} {vs : List (Key × V)}, KRs Γ μ H' ds vs → (∀ t ∈ ts, H t = none) → Paired (fun (t : Addr) (q : Key × V) => H' t = some (.tup [kV q.1, q.2])) ts vs → VRs Γ μ H' (itemsD ds) (ts.map V.ref)
  | _, _, _, .nil, _, .nil => .nil
  | t :: ts, (k, d) :: ds, _, .cons a b, hn, .cons h1 h2 => by
    unfold itemsD
    rw [List.map_cons, List.map_cons]
    exact .cons (.tup (new t (hn t List.mem_cons_self)) h1 (.cons (kV_at k _ _) (.cons a .nil))) (items_at new b (fun t' ht => hn t' (List.mem_cons_of_mem _ ht)) h2)
theorem s_items (hc : X.calm = true) (he : SE Γ X W e f) (hg : Gl X "list") (hm : X.mg "list" = none) (hbase : attributeBase e "items" X.env (eval e X.env) = eval e X.env := by rfl) (hline : (apos.endLine == cpos.line) = true := by rfl)
    (hs : starEach [.Call (.Attribute e "items" apos) [] [] cpos] X.env = (false, eval (.Call (.Attribute e "items" apos) [] [] cpos) X.env) :: starEach [] X.env := by rfl) :
    SE Γ X W (.Call (.Name "list" p) [.Call (.Attribute e "items" apos) [] [] cpos] [] pos) (eItems f) := by
  refine ⟨fun pins s σ' H Q I h => ?_⟩
  obtain ⟨μ, σ, S, a0, h⟩ := h
  refine wpAny_Call_Name_kw (ld_blt I hg hm rfl (PyProof.Rows.callWith_type1 (by
    rw [hs]
    refine Calls.spliced_cons (wpAny_Call_method (T := "dict") (id := "dict.items") hbase rfl hline F.plainAttrs_dict F.slot_dict_items F.type_dict_items (thn (he.run pins s σ' H (fun v1 H1 => ∃ q kvs vs μ1 S1, v1 = .ref q ∧ Rd H1 q (.dK vs) ∧ KRs Γ μ1 H1 kvs vs ∧ Step μ H μ1 H1 ∧ MR Γ μ1 S1 H1 ∧ KD Γ μ H Q (.lst (itemsD kvs)) S1) I (tev_of a0 h.of_bind fun d S1 μ1 v1 H1 h1 s1 a1 r1 => ?_)) fun u s1 hq => ?_))
    · split at h1
      · rename_i kvs ek
        obtain ⟨q, vs, rfl, rd, rs⟩ := dictK_at a1.mr r1 ek
        exact ⟨q, kvs, vs, μ1, S1, rfl, rd, rs, s1, a1.mr, h1⟩
      · exact h1.elim
    · obtain ⟨v1, H1, I1, rx, q, kvs, vs, μ1, S1, rfl, rd, rs, st, m1, k1⟩ := hq
      obtain rfl : u = Value.ref q := rx
      obtain ⟨hz, hlo, ws, kv, hdo⟩ := dk_rd I1.hok rd
      obtain ⟨ep, hat⟩ := hdo.dictAt
      have lk : vs.length = ws.length := Paired.length kv
      have I2 : Inv X pins σ' H1 { s1 with heap := s1.heap.push { cls := .type "dict_items", data := .fields #[.ref q] } } := I1.kept (t' := s1.toks) fun b ob z => Heap.get?_push_of_some _ z
      refine ⟨hdo.typeIs, hdo.mapOf.noDict, method_meetsIn F.slot_dict_items F.entry_dict_items rfl (PySem.evalArgs_none ⟨rfl, hdo.typeIs, F.args_dict_items_1 _, _, meets_dict_items (mixKind X.prog X.w) q hlo, ⟨ws, hdo⟩, Calls.spliced_nil (PySem.W.kdx_call (knd := mixKind X.prog X.w) (kvs := ws) (ep := ep) (I1.ok.hd hc) ⟨_, Heap.get?_push_size _ rfl, rfl, rfl⟩ (hat.push _) (by omega) fun h' tk acc c as hk hS hl hG hacc => ?_)⟩)⟩
      obtain ⟨H', k2, k3, k4, k5, k6, k7, J⟩ := LiI.items_laid (tk := tk) I2 hz kv hk hS hl hG hacc
      have s2 : Step μ1 H1 μ1 H' := ⟨⟨[], by simp⟩, rfl, fun b o e n => ⟨n, .inl (k2 b o e)⟩, fun b o _ e => k2 b o e⟩
      have m2 : MR Γ μ1 S1 H' := ⟨m1.len, m1.nd, fun i o b hi hb => (m1.ob i o b hi hb).mono s2 fun v e => k2 b v e, fun b hb => let ⟨⟨v, e, t⟩, c⟩ := m1.hd b hb; ⟨⟨v, k2 b v e, t⟩, c⟩⟩
      exact ⟨.ref _, H', J, rfl, k1 μ1 _ H' (st.trans s2) m2 (.lst (m1.fresh k3) k6 (items_at (H := H1) (fun t ht => m1.fresh ht) (rs.mono s2) k4 k7))⟩) hs rfl))
/-! ### dict(pairs) -/
def pairsD : List D → Option (List (Key × D))
  | [] => some []
  | .tup [k, v] :: r => match keyOf k, pairsD r with
    | some key, some rest => some ((key, v) :: rest)
    | _, _ => none
  | _ => none
def mergeD (kvs more : List (Key × D)) : List (Key × D) := more.foldl (fun acc kv => putD acc kv.1 kv.2) kvs
theorem KRs.merge {μ : Mp} {H : Hp} {more : List (Key × D)} {vs : List (Key × V)} {ds : List (Key × D)} {ws : List (Key × V)} (r : KRs Γ μ H more vs) (h : KRs Γ μ H ds ws) : KRs Γ μ H (mergeD ds more) (mergeK ws vs) := by
  induction more generalizing vs ds ws with
  | nil => cases r; exact h
  | cons x more ih =>
    cases r with
    | @cons kk dd vv _ vs' a b =>
      have z := ih b (h.put (k := kk) a)
      exact z
theorem pairs_at (K : PySem.W.Frag) {μ : Mp} {H : Hp} : ∀ {xs : List D} {us : List V} {ds : List (Key × D)}, VRs Γ μ H xs us → pairsD xs = some ds → ∃ (ps : List Addr) (kvs : List (Key × V)), us = ps.map V.ref ∧ Paired (fun p kv => SqT K H p [kV kv.1, kv.2]) ps kvs ∧ KRs Γ μ H ds kvs
  | [], _, _, .nil, h => by cases h; exact ⟨[], [], rfl, .nil, .nil⟩
  | x :: r, _, ds, .cons a b, h => by
    unfold pairsD at h
    split at h
    · rename_i heq; cases heq
    · rename_i k v r' heq
      cases heq
      split at h
      · rename_i key rest e1 e2
        cases h
        obtain ⟨ps, kvs, h1, h2, h3⟩ := pairs_at K b e2
        obtain ⟨q, ws, rfl, hq, rs⟩ := tup_at K a
        obtain ⟨v1, v2, rfl, r1, r2⟩ := rs.two
        have ek := keyOf_at r1 e1
        subst ek
        exact ⟨q :: ps, (key, v2) :: kvs, by rw [h1]; rfl, .cons hq h2, .cons r2 h3⟩
      · cases h
    · cases h
def opDictP : OpC := fun ds S => match ds with
  | [d] => match seqA d S with
    | some xs => match pairsD xs with
      | some kvs => .ok (.dk (mergeD [] kvs)) S
      | none => .no
    | none => .no
  | _ => .no
theorem KD.newD {μ : Mp} {H : Hp} {Q : VK} {S : Sto} {ds : List (Key × D)} {vs : List (Key × V)} (k : KD Γ μ H Q (.dk ds) S) (m : MR Γ μ S H) (r : KRs Γ μ H ds vs) {p : Addr} (h : H p = none) : Q (.ref p) (upd H p (.dK vs)) :=
  k μ _ _ (Step.new h) (m.new h) (.dk (m.fresh h) (.inl upd_same) (r.mono (Step.new h)))
theorem rd_dictP : RdC Γ W (fun xs H Q => ∃ (a : Addr) (ps : List Addr) (kvs : List (Key × V)), xs = [.ref a] ∧ SqL X.K H a (ps.map V.ref) ∧ Paired (fun p kv => SqT X.K H p [kV kv.1, kv.2]) ps kvs ∧ ∀ p, H p = none → Q (.ref p) (upd H p (.dK (mergeK [] kvs)))) opDictP := by
  intro H Q vs μ ds S n rv m sat
  unfold opDictP at sat
  split at sat
  · obtain ⟨v, rfl, r⟩ := rv.one
    split at sat
    · rename_i xs ex
      split at sat
      · rename_i kvs ek
        obtain ⟨q, us, rfl, hq, rs⟩ := seqA_at X.K m r ex
        obtain ⟨ps, ws, rfl, h2, h3⟩ := pairs_at X.K rs ek
        exact ⟨q, ps, ws, rfl, hq, h2, fun p' hp => KD.newD sat m (h3.merge .nil) hp⟩
      · exact sat.elim
    · exact sat.elim
  · exact sat.elim
/-! ### for x in text -/
def charsD (z : Str) : List D := z.cps.toList.map fun c => .str ⟨#[c]⟩
def iStrD (f : F1) : FI := fun σ S => (f σ S).bind fun d S1 => match d with
  | .str z => .ok (charsD z) S1
  | _ => .no
theorem i_str (he : SE Γ X W e f) : SI Γ X W tg e (iStrD f) := by
  refine PI.imp (L2.pi_str he) fun σ' H R h => ?_
  obtain ⟨μ, σ, S, a, h⟩ := h
  refine tev_of a h.of_bind fun d S1 μ1 v1 H1 h1 s1 a1 r1 => ?_
  split at h1
  · rename_i z
    cases r1
    refine ⟨z, rfl, h1 μ1 H1 _ s1 a1.mr ⟨_, _, by rw [show (charsD z).length = z.cps.size from by unfold charsD; simp]; exact walk_str, fun _ _ _ => trivial, ?_⟩⟩
    rintro i μ2 H2 S2 x' H3 s m ⟨rfl, c, hc, rfl⟩
    exact ⟨Step.refl, m, .str ⟨#[c]⟩, by unfold charsD; rw [List.getElem?_map, Array.getElem?_toList, hc]; rfl, .str _⟩
  · exact h1.elim
end
end Ev
namespace Ev
open PySem PySem.Spec PyProof.Rows L2
/-! ### sorted(a tuple of ints) -/
def rSortedIT (K : PySem.W.Frag) : List V → Hp → VK → Prop := fun vs H Q => ∃ (a : Addr) (ns : List Int), vs = [V.ref a] ∧ SqT K H a (ns.map V.int) ∧
  ∀ (ns' : List Int) (p : Addr), ns'.Perm ns → ns'.Pairwise (· ≤ ·) → H p = none → Q (.ref p) (upd H p (.lst (ns'.map V.int)))
section
variable {Γ : Nat → Addr} {W : WX} {X : Cx}
theorem cr_sortedIT : CallR X (.builtin "sorted") (rSortedIT X.K) := by
  intro pins s σ H vs us Q I r h
  obtain ⟨a, ns, rfl, hs, q⟩ := h
  obtain ⟨its, rv, pl, hz⟩ := I.tuple hs
  obtain ⟨o, ho, hc, n, hd⟩ := pl
  rw [Vals.ref1 r]
  have hi := rv.ints
  have hl : its.length ≤ sizeLine := by rw [← rv.length]; exact hz
  refine Calls.call_function_entry kind_sorted plain_sorted entry_sorted (args_sorted1 _) ?_
  unfold Builtin.«sorted»
  refine wpAny_bind (m := checkCount "sorted" 1 1 _) (wpAny_pure (wpAny_bind (wpAny_collect_seq a (.inr rfl) ho hc hd (fun h' k => ?_) (by rw [List.size_toArray]; exact hl))))
  refine wpAny_bind (wpAny_newList ?_ (by simpa using hl))
  have hoL : (h'.push (seqObj "list" its.toArray 0)).get? h'.objs.size = some (seqObj "list" its.toArray 0) := Heap.get?_push_size _ rfl
  show wpAny _ _ _ _ _ { s with heap := h'.push (seqObj "list" its.toArray 0) }
  refine wpAny_bind (wpAny_holding (wpAny_call_entry slot_list_sort ⟨_, hoL, rfl⟩ entry_list_sort (SrtO.list_sort_ord SrtO.swo_int hoL hl (fun h2 => SrtO.ints_sortable hi h2) fun out hs1 hb1 => ⟨_, rfl, ?_⟩) (args_list_sort _)))
  obtain ⟨k1, k2, k3⟩ := SrtO.ints_out hi hs1 hb1
  refine wpAny_pure ⟨_, rfl, ?_⟩
  have I1 : Inv X pins σ H { s with heap := h' } := I.kept (t' := s.toks) k
  obtain ⟨ep, he'⟩ := sortedHeap_at (vs := its) (out := out.toArray) hoL
  have hlen : ((out.map SrtO.iv).map V.int).length ≤ sizeLine := by
    rw [List.length_map, k2.length_eq]
    rw [List.length_map] at hz
    exact hz
  refine ⟨.ref _, upd H h'.objs.size (.lst ((out.map SrtO.iv).map V.int)), I1.laid (t' := s.toks) (fun b o e => ?_) (Nat.le_refl _) ⟨hlen, out, ep, vals_of_ints k1, he'⟩, rfl, q _ _ k2 k3 (I1.hok.fresh (Nat.le_refl _))⟩
  have hlt : b < h'.objs.size := Heap.lt_size e
  rw [sortedHeap_old (Nat.ne_of_lt hlt) (by rw [size_push']; exact Nat.lt_succ_of_lt hlt)]
  exact Heap.get?_push_of_some _ e
def opSortedT : OpC := fun ds S => match ds with
  | [.tup xs] => match mapO asInt xs with
    | some bs => .ok (.lst ((isort bs).map .int)) S
    | none => .no
  | _ => .no
theorem rd_sortedT : RdC Γ W (rSortedIT X.K) opSortedT := by
  intro H Q vs μ ds S n rv m sat
  unfold opSortedT at sat
  split at sat
  · obtain ⟨v, rfl, r⟩ := rv.one
    split at sat
    · rename_i bs e2
      obtain ⟨p, vs, rfl, hq, rs⟩ := tup_at X.K r
      have e3 := ints_at rs e2
      subst e3
      refine ⟨p, bs, rfl, hq, fun ns' q hp hs hq0 => ?_⟩
      rw [sorted_eq hp hs]
      exact KD.newL sat m (ints_of _) hq0
    · exact sat.elim
  · exact sat.elim
end
end Ev
namespace Ev
open PySem PySem.Spec PyProof.Rows L2
/-! ### sets of ints, made and used at once -/
theorem nodup_le : ∀ {l1 l2 : List Int}, l1.Nodup → (∀ x ∈ l1, x ∈ l2) → l1.length ≤ l2.length
  | [], _, _, _ => Nat.zero_le _
  | a :: t, l2, nd, hs => by
    have ha : a ∈ l2 := hs a List.mem_cons_self
    have nd' := List.nodup_cons.mp nd
    have ih := nodup_le (l1 := t) (l2 := l2.erase a) nd'.2 fun x hx => by
      have hx2 : x ∈ l2 := hs x (List.mem_cons_of_mem _ hx)
      exact (List.mem_erase_of_ne (fun e => nd'.1 (by rw [← e]; exact hx))).mpr hx2
    rw [List.length_erase_of_mem ha] at ih
    have : 0 < l2.length := List.length_pos_of_mem ha
    simp only [List.length_cons]
    omega
theorem nodup_len {l1 l2 : List Int} (h1 : l1.Nodup) (h2 : l2.Nodup) (h : ∀ x, x ∈ l1 ↔ x ∈ l2) : l1.length = l2.length :=
  Nat.le_antisymm (nodup_le h1 fun x hx => (h x).mp hx) (nodup_le h2 fun x hx => (h x).mpr hx)
/-- each member once -/
def nub : List Int → List Int
  | [] => []
  | a :: r => if a ∈ r then nub r else a :: nub r
theorem mem_nub {x : Int} : ∀ {l : List Int}, x ∈ nub l ↔ x ∈ l
  | [] => Iff.rfl
  | a :: r => by
    unfold nub
    split
    · rename_i h
      rw [mem_nub (l := r), List.mem_cons]
      exact ⟨.inr, fun z => z.elim (fun e => by rw [e]; exact h) id⟩
    · rw [List.mem_cons, List.mem_cons, mem_nub (l := r)]
theorem nub_nodup : ∀ (l : List Int), (nub l).Nodup
  | [] => List.Pairwise.nil
  | a :: r => by
    unfold nub
    split
    · exact nub_nodup r
    · rename_i h
      exact List.nodup_cons.mpr ⟨fun z => h (mem_nub.mp z), nub_nodup r⟩
theorem lt_unique {a b : List Int} (ha : a.Pairwise (· < ·)) (hb : b.Pairwise (· < ·)) (h : ∀ x, x ∈ a ↔ x ∈ b) : a = b := by
  induction a generalizing b with
  | nil =>
    cases b with
    | nil => rfl
    | cons y r => exact absurd ((h y).mpr List.mem_cons_self) (by simp)
  | cons x t ih =>
    cases b with
    | nil => exact absurd ((h x).mp List.mem_cons_self) (by simp)
    | cons y r =>
      have a1 := List.pairwise_cons.mp ha
      have b1 := List.pairwise_cons.mp hb
      have e : x = y := by
        rcases List.mem_cons.mp ((h x).mp List.mem_cons_self) with e | e
        · exact e
        · rcases List.mem_cons.mp ((h y).mpr List.mem_cons_self) with e2 | e2
          · exact e2.symm
          · have := a1.1 y e2
            have := b1.1 x e
            omega
      subst e
      rw [ih a1.2 b1.2 fun z => ?_]
      constructor
      · intro hz
        rcases List.mem_cons.mp ((h z).mp (List.mem_cons_of_mem _ hz)) with e | e
        · exact absurd (a1.1 z hz) (by omega)
        · exact e
      · intro hz
        rcases List.mem_cons.mp ((h z).mpr (List.mem_cons_of_mem _ hz)) with e | e
        · exact absurd (b1.1 z hz) (by omega)
        · exact e
/-- the members, ascending -/
def sset (l : List Int) : List Int := isort (nub l)
theorem sset_lt (l : List Int) : (sset l).Pairwise (· < ·) := by
  have h1 := isort_sorted (nub l)
  have h2 : (isort (nub l)).Nodup := (isort_perm (nub l)).nodup_iff.mpr (nub_nodup l)
  exact List.Pairwise.imp₂ (fun a b h n => by omega) h1 h2
theorem mem_sset {x : Int} {l : List Int} : x ∈ sset l ↔ x ∈ l := ((isort_perm (nub l)).mem_iff).trans mem_nub
def setInts (d : D) : Option (List Int) := match d with
  | .tup xs => if xs.length < 60 then mapO asInt xs else none
  | _ => none
def eLenSet (f : F1) : F1 := fun σ S => (f σ S).bind fun d S1 => match setInts d with
  | some ns => .ok (.int (nub ns).length) S1
  | none => .no
def eSortedSet (f : F1) : F1 := fun σ S => (f σ S).bind fun d S1 => match setInts d with
  | some ns => .ok (.lst ((sset ns).map .int)) S1
  | none => .no
section
variable {Γ : Nat → Addr} {W : WX} {X : Cx} {a : Expr} {f : F1} {p p2 q pos : Pos}
theorem setInts_at {μ : Mp} {H : Hp} {d : D} {v : V} {ns : List Int} (r : VR Γ μ H d v) (h : setInts d = some ns) : ∃ l, v = .ref l ∧ SqT X.K H l (ns.map V.int) ∧ ns.length < 60 := by
  unfold setInts at h
  split at h
  · split at h
    · rename_i hl
      obtain ⟨l, vs, rfl, hq, rs⟩ := tup_at X.K r
      have e := ints_at rs h
      subst e
      exact ⟨l, rfl, hq, by rw [rs.len_ints] at hl; exact hl⟩
    · cases h
  · cases h
theorem setR_len {w : World} {h : Heap} {b : Addr} {ns : List Int} {n : Nat} (R : SetR w h b (fun j => decide (j ∈ ns)) n) : n = (nub ns).length := by
  obtain ⟨o, es, ep, t, ho, hx, hd, g, nd, hm, hb, hf, hn, _⟩ := R
  have e := nodup_len nd (nub_nodup ns) fun x => (hm x).symm.trans (by rw [decide_eq_true_iff]; exact mem_nub.symm)
  rw [List.length_map, Array.length_toList] at e
  rw [← hn, e]
theorem s_lenSet (hc : X.calm = true) (hg : Gl X "len") (hm : X.mg "len" = none) (hg2 : Gl X "set") (hm2 : X.mg "set" = none) (ha : SE Γ X W a f) (na : starEach [a] X.env = (false, eval a X.env) :: starEach [] X.env := by rfl) :
    SE Γ X W (.Call (.Name "len" p) [.Call (.Name "set" p2) [a] [] q] [] pos) (eLenSet f) := by
  refine ⟨fun pins s σ' H Q I h => ?_⟩
  obtain ⟨μ, σ, S, a0, h⟩ := h
  refine Call_ (ld_blt I hg hm PySem.boot_len (PyProof.Rows.callWith_builtin1 (PyProof.Rows.args_cons (Call_ (ld_blt I hg2 hm2 PyProof.Rows.boot_set (PyProof.Rows.callWith_type1 (PyProof.Rows.args_cons (thn (ha.run pins s σ' H (fun v1 H1 => ∃ l ns μ1 S1, v1 = .ref l ∧ SqT X.K H1 l (ns.map V.int) ∧ ns.length < 60 ∧ Step μ H μ1 H1 ∧ MR Γ μ1 S1 H1 ∧ KD Γ μ H Q (.int (nub ns).length) S1) I (tev_of a0 h.of_bind fun d S1 μ1 v1 H1 h1 s1 a1 r1 => ?_)) fun v s1 hq => PyProof.Rows.args_nil ?_) na) na rfl))) rfl) rfl rfl))
  · split at h1
    · rename_i ns en
      obtain ⟨l, rfl, hl, hz⟩ := setInts_at (X := X) r1 en
      exact ⟨l, ns, μ1, S1, rfl, hl, hz, s1, a1.mr, h1⟩
    · exact h1.elim
  · obtain ⟨v1, H1, I1, r1, l, ns, μ1, S1, rfl, hl, hz, st, m1, k1⟩ := hq
    cases r1
    obtain ⟨its, rv, pl, hsz⟩ := I1.tuple hl
    refine call_set_tupI ns (I1.ok.hd hc) pl (by simpa using rv.ints) (by unfold scanBound; omega) fun h' tk c R hcn hk => PyProof.Rows.args_nil ?_
    have I2 : Inv X pins σ' H1 { s1 with heap := h', toks := tk } := I1.kept hk
    have ec := setR_len R
    obtain ⟨o, es, ep, t, ho, hx, hd, _, _, _, _, hf, hn, _⟩ := R
    refine call_len_set ho hx hd hf (by rw [hn]; omega) ⟨.int (nub ns).length, H1, I2.tok _, ⟨_, by rw [hn, ec]⟩, KD.here (KD.mono st k1) m1 (.int _)⟩
theorem s_sortedSet (hc : X.calm = true) (hg : Gl X "sorted") (hm : X.mg "sorted" = none) (hg2 : Gl X "set") (hm2 : X.mg "set" = none) (ha : SE Γ X W a f) (na : starEach [a] X.env = (false, eval a X.env) :: starEach [] X.env := by rfl) :
    SE Γ X W (.Call (.Name "sorted" p) [.Call (.Name "set" p2) [a] [] q] [] pos) (eSortedSet f) := by
  refine ⟨fun pins s σ' H Q I h => ?_⟩
  obtain ⟨μ, σ, S, a0, h⟩ := h
  refine Call_ (ld_blt I hg hm PyProof.Rows.boot_sorted (PyProof.Rows.callWith_builtin1 (PyProof.Rows.args_cons (Call_ (ld_blt I hg2 hm2 PyProof.Rows.boot_set (PyProof.Rows.callWith_type1 (PyProof.Rows.args_cons (thn (ha.run pins s σ' H (fun v1 H1 => ∃ l ns μ1 S1, v1 = .ref l ∧ SqT X.K H1 l (ns.map V.int) ∧ ns.length < 60 ∧ Step μ H μ1 H1 ∧ MR Γ μ1 S1 H1 ∧ KD Γ μ H Q (.lst ((sset ns).map .int)) S1) I (tev_of a0 h.of_bind fun d S1 μ1 v1 H1 h1 s1 a1 r1 => ?_)) fun v s1 hq => PyProof.Rows.args_nil ?_) na) na rfl))) rfl) rfl rfl))
  · split at h1
    · rename_i ns en
      obtain ⟨l, rfl, hl, hz⟩ := setInts_at (X := X) r1 en
      exact ⟨l, ns, μ1, S1, rfl, hl, hz, s1, a1.mr, h1⟩
    · exact h1.elim
  · obtain ⟨v1, H1, I1, r1, l, ns, μ1, S1, rfl, hl, hz, st, m1, k1⟩ := hq
    cases r1
    obtain ⟨its, rv, pl, hsz⟩ := I1.tuple hl
    refine call_set_tupI ns (I1.ok.hd hc) pl (by simpa using rv.ints) (by unfold scanBound; omega) fun h' tk c R hcn hk => PyProof.Rows.args_nil ?_
    have hn : H1 s1.heap.objs.size = none := I1.hok.fresh (Nat.le_refl _)
    have I2 : Inv X pins σ' (upd H1 s1.heap.objs.size (SetO X.w s1.heap.objs.size (fun j => decide (j ∈ ns)) c)) { s1 with heap := h', toks := tk } := I1.laid hk (Nat.le_refl _) (setO_new R)
    have s2 : Step μ1 H1 μ1 (upd H1 s1.heap.objs.size (SetO X.w s1.heap.objs.size (fun j => decide (j ∈ ns)) c)) := Step.new hn
    refine cr_sortedSet hc pins _ σ' _ [.ref s1.heap.objs.size] [.ref s1.heap.objs.size] Q I2 (.cons rfl .nil) ⟨_, _, c, rfl, upd_same, by omega, fun ns' p' hlt hmem hlen hp => ?_⟩
    have e : ns' = sset ns := lt_unique hlt (sset_lt ns) fun x => (hmem x).trans (by rw [decide_eq_true_iff]; exact mem_sset.symm)
    subst e
    exact KD.newL (KD.mono (st.trans s2) k1) (m1.new hn) (ints_of _) hp
end
end Ev
namespace Ev
open PySem PySem.Spec PyProof.Rows L2
/-! ### within a block: what the rows so far made stands still from now on, the rest of it is forgotten -/
def cutSlot (n : Nat) (S1 : Sto) (o : Option D) : Option D := match o with
  | some d => if bd n (fzAt n S1 d) = true then some (fzAt n S1 d) else none
  | none => none
def cutS (S0 : Sto) (σ : Sg) (S1 : Sto) : Option (Sg × Sto) :=
  if S0.length ≤ S1.length ∧ (S1.take S0.length).all (bdO S0.length) = true then some (σ.map (cutSlot S0.length S1), S1.take S0.length) else none
section
variable {Γ : Nat → Addr} {W : WX} {X : Cx} {k : Nat} {μ μ2 : Mp} {H H2 : Hp}
theorem At.cut {σ σc : Sg} {S S2 Sc : Sto} {σ' : L2.St} (m : MR Γ μ S H) (st : Step μ H μ2 H2) (a : At Γ k μ2 H2 σ S2 σ') (h : cutS S σ S2 = some (σc, Sc)) : At Γ k μ H2 σc Sc σ' := by
  unfold cutS at h
  split at h
  · rename_i hb
    obtain ⟨hl, hb⟩ := hb
    cases h
    have hl' : (S2.take S.length).length = μ.cells.length := by rw [List.length_take, ← m.len.symm]; omega
    have mm : MR Γ μ (S2.take S.length) H2 := MR.cut (T := S2.drop S.length) st.isCut (by rw [List.take_append_drop]; exact a.mr) hl' fun i o hi => by
      rw [m.len]
      exact List.all_eq_true.mp hb o (List.mem_of_getElem? hi)
    refine ⟨⟨by rw [List.length_map]; exact a.sr.len, a.sr.kk, fun i d hd => ?_⟩, mm⟩
    rw [List.getElem?_map] at hd
    cases e : σ[i]? with
    | none => rw [e] at hd; cases hd
    | some o =>
      rw [e] at hd
      have hd : cutSlot S.length S2 o = some d := by simpa using hd
      unfold cutSlot at hd
      cases o with
      | none => cases hd
      | some d0 =>
        dsimp only at hd
        split at hd
        · rename_i hbd
          cases hd
          obtain ⟨v, ev, rv⟩ := a.sr.at_ i d0 e
          refine ⟨v, ev, ?_⟩
          rw [← m.len] at hbd ⊢
          rcases fzAt_is μ.cells.length S2 d0 with z | ⟨j, u, rfl, hj, hu, z⟩
          · rw [z] at hbd ⊢
            exact rv.cut st.isCut hbd
          · rw [z] at hbd ⊢
            obtain ⟨p, rfl, hp, oo⟩ := cell_at a.mr rv hu
            exact oo.fz st.isCut (MR.newAt (S1 := S2.take S.length) (T := S2.drop S.length) st.isCut (by rw [List.take_append_drop]; exact a.mr) hl' hj hp) hbd
        · cases hd
  · cases h
def seqP : List FS → FS
  | [] => bNil
  | g :: r => bCons g (seqP r)
/-- rows and what they do -/
inductive SSs (Γ : Nat → Addr) (X : Cx) (W : WX) : List Stmt → List FS → Prop
  | nil : SSs Γ X W [] []
  | cons {st g l gs} : SS Γ X W st g → SSs Γ X W l gs → SSs Γ X W (st :: l) (g :: gs)
/-- .. and the rest behind them, all seen from where the rows began -/
def cutK (S0 : Sto) (h : FS) (o : Out) (S1 : Sto) : Res Out := match o with
  | .nx σ1 => match cutS S0 σ1 S1 with
    | some (σc, Sc) => h σc Sc
    | none => .no
  | o => .ok o S1
def bCut (gs : List FS) (h : FS) : FS := fun σ S => (seqP gs σ S).bind (cutK S h)
theorem cut_core {rest : List Stmt} {h : FS} (h2 : SB Γ X W rest h) {l : List Stmt} {gs : List FS} (hs : SSs Γ X W l gs) :
    PSs X (l ++ rest) (fun E σ' H => ∃ μ0 H0 S0 μ σ S, Step μ0 H0 μ H ∧ MR Γ μ0 S0 H0 ∧ At Γ X.N.length μ H σ S σ' ∧ Res.Sat ((seqP gs σ S).bind (cutK S0 h)) (KO Γ X.N.length μ0 H0 E) (KE Γ W X.N.length μ0 H0)) := by
  induction hs with
  | nil =>
    refine PSs.imp h2 fun E σ' H q => ?_
    obtain ⟨μ0, H0, S0, μ, σ, S, st, m0, a, q⟩ := q
    have q : Res.Sat (cutK S0 h (.nx σ) S) (KO Γ X.N.length μ0 H0 E) (KE Γ W X.N.length μ0 H0) := q
    unfold cutK at q
    dsimp only at q
    split at q
    · rename_i σc Sc ec
      exact ⟨μ0, σc, Sc, a.cut m0 st ec, Sat.laterO st.back q⟩
    · exact q.elim
  | cons h1 hs ih =>
    refine PSs.imp (pss_cons h1 ih) fun E σ' H q => ?_
    obtain ⟨μ0, H0, S0, μ, σ, S, st, m0, a, q⟩ := q
    rename_i st1 g l gs
    have q : Res.Sat (((g σ S).bind fun o S1 => match o with | .nx σ1 => seqP gs σ1 S1 | o => .ok o S1).bind (cutK S0 h)) (KO Γ X.N.length μ0 H0 E) (KE Γ W X.N.length μ0 H0) := q
    refine ⟨μ, σ, S, a, ?_⟩
    cases eg : g σ S with
    | no => rw [eg] at q; exact q.elim
    | ex x S1 =>
      rw [eg] at q
      exact KE.mono st q
    | ok o S1 =>
      rw [eg] at q
      cases o with
      | nx σ1 => exact fun μ' σ1' H' s' a' => ⟨μ0, H0, S0, μ', σ1, S1, st.trans s', m0, a', q⟩
      | bk σ1 => exact KO.mono (o := .bk σ1) st q
      | ct σ1 => exact KO.mono (o := .ct σ1) st q
      | rt d => exact KO.mono (k := X.N.length) (o := .rt d) st q
/-- THE RULE -/
theorem b_cut {rest l : List Stmt} {gs : List FS} {h : FS} (hs : SSs Γ X W l gs) (h2 : SB Γ X W rest h) : SB Γ X W (l ++ rest) (bCut gs h) := by
  refine PSs.imp (cut_core h2 hs) fun E σ' H q => ?_
  obtain ⟨μ, σ, S, a, q⟩ := q
  exact ⟨μ, H, S, μ, σ, S, Step.refl, a.mr, a, q⟩
end
end Ev
namespace Ev
open PySem PySem.Spec PyProof.Rows L2
/-! ### {k: v for target in iter if ..} -/
def putO (acc : List (Key × D)) : Option (Key × D) → List (Key × D)
  | some kv => putD acc kv.1 kv.2
  | none => acc
def dcG (turn : D → Sto → Res (Option (Key × D))) : List D → List (Key × D) → Sto → Res (List (Key × D))
  | [], acc, S => .ok acc S
  | x :: r, acc, S => (turn x S).bind fun o S1 => dcG turn r (putO acc o) S1
def dcTurn (p : Pat) (ft : FT) (fk fv : F1) (σ : Sg) : D → Sto → Res (Option (Key × D)) := fun d S => match patD p d σ with
  | some σ1 => (ft σ1 S).bind fun b S1 => if b = true then (fk σ1 S1).bind fun y S2 => (fv σ1 S2).bind fun z S3 => match keyOf y with
    | some k => .ok (some (k, z)) S3
    | none => .no else .ok none S1
  | none => .no
def eDc (fi : FI) (p : Pat) (ft : FT) (fk fv : F1) (own : List Nat) : F1 := fun σ S => (fi σ S).bind fun items S1 => if items.length < line then (dcG (dcTurn p ft fk fv (wipeD σ own)) items [] S1).nox.bind fun ys S2 => .ok (.dk ys) S2 else .no
theorem putK_len (kvs : List (Key × V)) (k : Key) (v : V) : (putK kvs k v).length ≤ kvs.length + 1 := by
  unfold putK
  split
  · rw [List.length_map]; omega
  · rw [List.length_append]; exact Nat.le_refl _
theorem dcG_cons {turn : D → Sto → Res (Option (Key × D))} {x : D} {r : List D} {acc ys : List (Key × D)} {S S' : Sto} (h : dcG turn (x :: r) acc S = .ok ys S') : ∃ o S1, turn x S = .ok o S1 ∧ dcG turn r (putO acc o) S1 = .ok ys S' := by
  have h : ((turn x S).bind fun o S1 => dcG turn r (putO acc o) S1) = .ok ys S' := h
  cases e : turn x S with
  | ok o S1 => rw [e] at h; exact ⟨o, S1, rfl, h⟩
  | ex _ _ => rw [e] at h; cases h
  | no => rw [e] at h; cases h
section
variable {Γ : Nat → Addr} {W : WX} {X : Cx} {kx vx tg iter : Expr} {ifs : List Expr} {scope : Scope} {own : List (Str × Nat)} {pos : Pos} {fi : FI} {p : Pat} {ft : FT} {fk fv : F1} {k : Nat} {μ : Mp} {H : Hp} {σ : Sg} {S : Sto} {σ' : L2.St}
/-- a walk's turns, whatever a turn does -/
theorem walk_it {J : It} {n : Nat} {G : Hp → Prop} {Y : Nat → Hp → V → Hp → Prop} (w : Walk J n G Y) {T : (Hp → Prop) → V → Hp → Prop} {Qd : Hp → Prop} {H0 : Hp} (Pv : Nat → Hp → Prop) (h0 : Pv 0 H0) (hg : ∀ i H, i ≤ n → Pv i H → G H)
    (hs : ∀ i x H H', i < n → Pv i H → Y i H x H' → T (Pv (i + 1)) x H') (hd : ∀ H, Pv n H → Qd H) :
    ∃ W1 : Nat → Nat → Hp → Prop, (∃ m, W1 0 m H0) ∧ ∀ i m H, W1 i m H → (J.stop i H ∧ Qd H) ∨ (J.go i H ∧ ∃ Nx : Hp → Prop, (∀ H', Nx H' → ∃ m', m' < m ∧ W1 (i + 1) m' H') ∧ ∀ x H', J.yld i H x H' → T Nx x H') := by
  refine ⟨fun i m H => m = n - i ∧ i ≤ n ∧ Pv i H, ⟨n, by omega, Nat.zero_le _, h0⟩, ?_⟩
  rintro i m H ⟨rfl, hi, p⟩
  have g := hg i H hi p
  by_cases hlt : i < n
  · exact .inr ⟨w.goes i H hlt g, Pv (i + 1), fun H' p' => ⟨n - (i + 1), by omega, rfl, hlt, p'⟩, fun x H' y => hs i x H H' hlt p (w.yields i H x H' hlt g y)⟩
  · obtain rfl : i = n := by omega
    exact .inl ⟨w.stops H g, hd H p⟩
theorem dc_run (K : PySem.W.Frag) {vs : List Nat} {items : List D} {ys : List (Key × D)} {S2 : Sto} {J : It} {D0 : Addr} {Qd : Hp → Prop} (hp : ∀ i ∈ p.slots, i ∈ vs) (a : At Γ k μ H σ S σ') (iw : IW Γ μ H items J) (hD : H D0 = none) (hl : items.length < line)
    (e : dcG (dcTurn p ft fk fv (wipeD σ vs)) items [] S = .ok ys S2) (fin : ∀ (ν : Mp) H' acc, Step μ H ν H' → MR Γ (ν.hide D0) S2 H' → D0 ∉ ν → H' D0 = some (.dK acc) → KRs Γ (ν.hide D0) H' ys acc → Qd H') :
    ∃ W1 : Nat → Nat → Hp → Prop, (∃ m, W1 0 m (upd H D0 (.dK []))) ∧ ∀ i m H, W1 i m H →
      (J.stop i H ∧ Qd H) ∨ (J.go i H ∧ ∃ Nx : Hp → Prop, (∀ H', Nx H' → ∃ m', m' < m ∧ W1 (i + 1) m' H') ∧ ∀ x H', J.yld i H x H' → gPat K p x (L2.wipe σ' vs) H' fun σ2 H2 => L2.wipe σ2 vs = L2.wipe σ' vs ∧ TTv Γ W0 k ft σ2 H2 fun b H3 =>
        if b = true then TEv Γ W0 k fk σ2 H3 fun y H4 => TEv Γ W0 k fv σ2 H4 fun z H5 => ∃ kvs key, y = kV key ∧ H5 D0 = some (.dK kvs) ∧ kvs.length < sizeLine ∧ Nx (upd H5 D0 (.dK (putK kvs key z))) else Nx H3) := by
  obtain ⟨G, Y, w, gs, yl⟩ := id iw
  have nD : D0 ∉ μ := a.mr.fresh hD
  refine walk_it w (T := fun Nx x H' => gPat K p x (L2.wipe σ' vs) H' fun σ2 H2 => L2.wipe σ2 vs = L2.wipe σ' vs ∧ TTv Γ W0 k ft σ2 H2 fun b H3 =>
        if b = true then TEv Γ W0 k fk σ2 H3 fun y H4 => TEv Γ W0 k fv σ2 H4 fun z H5 => ∃ kvs key, y = kV key ∧ H5 D0 = some (.dK kvs) ∧ kvs.length < sizeLine ∧ Nx (upd H5 D0 (.dK (putK kvs key z))) else Nx H3) (fun i Hi => ∃ (ν : Mp) (Si : Sto) (done : List (Key × D)) (acc : List (Key × V)), Step μ H ν Hi ∧ D0 ∉ ν ∧ At Γ k (ν.hide D0) Hi (wipeD σ vs) Si (L2.wipe σ' vs) ∧ Hi D0 = some (.dK acc) ∧ KRs Γ (ν.hide D0) Hi done acc ∧ acc.length ≤ i ∧ dcG (dcTurn p ft fk fv (wipeD σ vs)) (items.drop i) done Si = .ok ys S2) ?_ ?_ ?_ ?_
  · exact ⟨μ, S, [], [], Step.new hD, nD, (a.wipe vs).hide hD, upd_same, .nil, Nat.le_refl _, by rw [List.drop_zero]; exact e⟩
  · rintro i Hi _ ⟨ν, Si, done, acc, si, _⟩
    exact gs ν Hi si.seen
  · rintro i x' Hi H2 hi ⟨ν, Si, done, acc, si, nν, ai, hacc, rdn, hlen, ez⟩ y
    have hs : Seen Γ μ H (ν.hide D0) Hi := ⟨si.pre, fun q u e n => by
      obtain ⟨n1, e1⟩ := si.kp q u e n
      exact ⟨not_hide n1 (ne_of_none e hD), e1⟩⟩
    obtain ⟨s2, m2, d, ed, rd⟩ := yl i (ν.hide D0) Hi Si x' H2 hs ai.mr y
    have hlt : i < items.length := (List.getElem?_eq_some_iff.mp ed).1
    have ed' : items[i] = d := by
      rw [List.getElem?_eq_getElem hlt] at ed
      exact Option.some.inj ed
    rw [List.drop_eq_getElem_cons hlt, ed'] at ez
    obtain ⟨o, S3, et, er⟩ := dcG_cons ez
    have unh : ∀ {μ5 : Mp} {H5 : Hp}, Step (ν.hide D0) Hi μ5 H5 → ∀ {S5 : Sto}, MR Γ μ5 S5 H5 → ∃ ν5 : Mp, μ5 = ν5.hide D0 ∧ Step μ H ν5 H5 ∧ D0 ∉ ν5 ∧ H5 D0 = some (.dK acc) := fun {μ5 H5} s {S5} m5 => by
      obtain ⟨c5, h5⟩ := μ5
      have eh : h5 = D0 :: ν.hid := s.hid
      subst eh
      have k5 : H5 D0 = some (.dK acc) := s.hkeep D0 _ List.mem_cons_self hacc
      have n5 : D0 ∉ (⟨c5, ν.hid⟩ : Mp) := fun z => by
        rcases z with z | z
        · exact (m5.hd D0 List.mem_cons_self).2 z
        · exact nν (.inr z)
      refine ⟨⟨c5, ν.hid⟩, rfl, si.trans ⟨s.pre, rfl, fun q u eq nq => ?_, fun q u hq eq => s.hkeep q u (List.mem_cons_of_mem _ hq) eq⟩, n5, k5⟩
      by_cases ez : q = D0
      · subst ez
        rw [hacc] at eq
        cases eq
        exact ⟨n5, .inl k5⟩
      · obtain ⟨n1, e1⟩ := s.kp q u eq (not_hide nq ez)
        exact ⟨not_unhide n1, e1⟩
    unfold dcTurn at et
    cases ep : patD p d (wipeD σ vs) with
    | none => rw [ep] at et; cases et
    | some σ1 =>
      rw [ep] at et
      have et : ((ft σ1 Si).bind fun b S1 => if b = true then (fk σ1 S1).bind fun y S2 => (fv σ1 S2).bind fun z S3 => match keyOf y with
        | some k => Res.ok (some (k, z)) S3
        | none => .no else .ok none S1) = .ok o S3 := et
      refine gPat_at K (ai.mono s2 m2) rd ep hp fun σ1' a1 hw => ⟨hw.trans (wipe_wipe vs σ'), ?_⟩
      cases eb : ft σ1 Si with
      | ex _ _ => rw [eb] at et; cases et
      | no => rw [eb] at et; cases et
      | ok b S4 =>
        rw [eb] at et
        have et : (if b = true then (fk σ1 S4).bind fun y S2 => (fv σ1 S2).bind fun z S3 => match keyOf y with
          | some k => Res.ok (some (k, z)) S3
          | none => .no else .ok none S4) = .ok o S3 := et
        refine ⟨_, σ1, Si, a1, sat_ok eb ?_⟩
        intro μ5 H5 s5 m5
        have s25 := s2.trans s5
        cases b with
        | false =>
          cases et
          refine iteF ?_
          obtain ⟨ν5, rfl, st, n5, k5⟩ := unh s25 m5
          exact ⟨ν5, S3, done, acc, st, n5, ai.mono s25 m5, k5, rdn.mono s25, Nat.le_succ_of_le hlen, er⟩
        | true =>
          refine iteT ?_
          have et : ((fk σ1 S4).bind fun y S2 => (fv σ1 S2).bind fun z S3 => match keyOf y with
            | some k => Res.ok (some (k, z)) S3
            | none => .no) = .ok o S3 := et
          cases ee : fk σ1 S4 with
          | ex _ _ => rw [ee] at et; cases et
          | no => rw [ee] at et; cases et
          | ok yd S5 =>
            rw [ee] at et
            have et : ((fv σ1 S5).bind fun z S3 => match keyOf yd with
              | some k => Res.ok (some (k, z)) S3
              | none => .no) = .ok o S3 := et
            refine ⟨μ5, σ1, S4, a1.mono s5 m5, sat_ok ee ?_⟩
            intro μ6 y' H6 s6 m6 ry
            cases ev : fv σ1 S5 with
            | ex _ _ => rw [ev] at et; cases et
            | no => rw [ev] at et; cases et
            | ok zd S6 =>
              rw [ev] at et
              have et : (match keyOf yd with
                | some k => Res.ok (some (k, zd)) S6
                | none => .no) = Res.ok o S3 := et
              cases ekey : keyOf yd with
              | none => rw [ekey] at et; cases et
              | some key =>
                rw [ekey] at et
                cases et
                refine ⟨μ6, σ1, S5, (a1.mono s5 m5).mono s6 m6, sat_ok ev ?_⟩
                intro μ7 z' H7 s7 m7 rz
                have s27 := (s25.trans s6).trans s7
                obtain ⟨ν7, rfl, st, n7, k7⟩ := unh s27 m7
                have hh : D0 ∈ (ν7.hide D0).hid := List.mem_cons_self
                have hsw : Seen Γ (ν7.hide D0) H7 (ν7.hide D0) (upd H7 D0 (.dK (putK acc key z'))) := Seen.write (.inr hh)
                have a7 := ai.mono s27 m7
                refine ⟨acc, key, keyOf_at ry ekey, k7, ?_, ν7, S3, putD done key zd, putK acc key z', ⟨st.pre, st.hid, fun q u eq nq => ?_, fun q u hq eq => ?_⟩, n7, ⟨⟨a7.sr.len, a7.sr.kk, fun j dd e1 => let ⟨v, e2, r⟩ := a7.sr.at_ j dd e1; ⟨v, e2, r.seen hsw⟩⟩, m7.writeH hh⟩, upd_same, ((rdn.mono s27).put rz).seen hsw, Nat.le_trans (putK_len _ _ _) (Nat.succ_le_succ hlen), er⟩
                · exact line_lt (Nat.lt_of_le_of_lt hlen (Nat.lt_trans hlt hl))
                · obtain ⟨n1, e1⟩ := st.kp q u eq nq
                  exact ⟨n1, by rw [upd_ne (ne_of_none eq hD)]; exact e1⟩
                · rw [upd_ne (fun z => nD (.inr (by rw [← z]; exact hq)))]
                  exact st.hkeep q u hq eq
  · rintro Hi ⟨ν, Si, done, acc, si, nν, ai, hacc, rdn, hlen, ez⟩
    rw [List.drop_length] at ez
    cases ez
    exact fin ν Hi acc si ai.mr nν hacc rdn
theorem s_dc (hc : X.calm = true) (hN : X.N.Nodup) (hi : SI Γ X W tg iter fi) (ok : BlkOk X.N X.env.scope scope own) (hp : ∀ i ∈ p.slots, i ∈ own.map (·.2))
    (hg : ∀ (s : Shared) (H : Hp) (C : Addr) (cl : List (Str × Addr)) (fp : List Addr), PG (X.blk s H scope (compEnvC scope cl C X.env) fp) tg (gPat X.K p))
    (ht : ∀ (s : Shared) (H : Hp) (C : Addr) (cl : List (Str × Addr)) (fp : List Addr), STs Γ (X.blk s H scope (compEnvC scope cl C X.env) fp) W0 ifs ft)
    (hk : ∀ (s : Shared) (H : Hp) (C : Addr) (cl : List (Str × Addr)) (fp : List Addr), SE Γ (X.blk s H scope (compEnvC scope cl C X.env) fp) W0 kx fk)
    (he : ∀ (s : Shared) (H : Hp) (C : Addr) (cl : List (Str × Addr)) (fp : List Addr), SE Γ (X.blk s H scope (compEnvC scope cl C X.env) fp) W0 vx fv) (hs : ∀ x, foldedSetIterable iter X.env x = pure x := by intro _; rfl) :
    SE Γ X W (.DictComp kx vx [⟨tg, iter, ifs, 0⟩] scope pos) (eDc fi p ft fk fv (own.map (·.2))) := by
  refine PE.imp (pe_dc (tt := TTv Γ W0 X.N.length ft) (tk := TEv Γ W0 X.N.length fk) (tv := TEv Γ W0 X.N.length fv) hc hN hi ok hg (fun s H C cl fp => ht s H C cl fp) (fun s H C cl fp => hk s H C cl fp) (fun s H C cl fp => he s H C cl fp) hs) fun σ' H Q h => ?_
  obtain ⟨μ, σ, S, a, h⟩ := h
  refine ⟨μ, σ, S, a, h.of_bind.mono (fun items S1 h1 => ?_) fun _ _ z => z⟩
  intro μ1 H1 J s1 m1 iw D0 hD
  split at h1
  · rename_i hl
    cases e : dcG (dcTurn p ft fk fv (wipeD σ (own.map (·.2)))) items [] S1 with
    | ex _ _ => rw [e] at h1; exact h1.elim
    | no => rw [e] at h1; exact h1.elim
    | ok ys S2 =>
      rw [e] at h1
      refine dc_run X.K hp (a.mono s1 m1) iw hD hl e fun μ' H' acc s' m' n' e' r' => ?_
      exact h1 μ' _ H' (s1.trans s') m'.show (.dk n' (.inl e') (r'.seen Seen.unhide))
  · exact h1.elim
end
end Ev
namespace Ev
open PySem PySem.Spec PyProof.Rows L2
/-! ### t[::-1], t a tuple -/
theorem rev_adjust (n : Nat) : Builtin.Slice.sliceAdjust none none (-1) (n : Int) = ((n : Int) - 1, -1) := by
  unfold Builtin.Slice.sliceAdjust
  simp
theorem rev_places (n : Nat) : Builtin.Slice.slicePlaces ((n : Int) - 1) (-1) (-1) = n := by
  unfold Builtin.Slice.slicePlaces
  simp
  split <;> omega
theorem rev_pick (xs : List Value) : ((List.range xs.length).filterMap fun (m : Nat) => xs.toArray[(((xs.length : Nat) : Int) - 1 + (m : Int) * (-1)).toNat]?) = xs.reverse := by
  have e : ∀ m ∈ List.range xs.length, xs.toArray[(((xs.length : Nat) : Int) - 1 + (m : Int) * (-1)).toNat]? = some (xs.reverse.getD m .none) := fun m hm => by
    have hm := List.mem_range.mp hm
    have e1 : (((xs.length : Nat) : Int) - 1 + (m : Int) * (-1)).toNat = xs.length - 1 - m := by omega
    rw [e1, List.getElem?_toArray, List.getD_eq_getElem?_getD, List.getElem?_reverse hm, List.getElem?_eq_getElem (by omega)]
    rfl
  have ec : ∀ (l : List Nat) (f g : Nat → Option Value), (∀ m ∈ l, f m = g m) → l.filterMap f = l.filterMap g := fun l f g h => by
    induction l with
    | nil => rfl
    | cons a r ih => rw [List.filterMap_cons, List.filterMap_cons, h a List.mem_cons_self, ih fun m hm => h m (List.mem_cons_of_mem _ hm)]
  rw [ec _ _ _ e]
  have e2 : ∀ (l : List Nat) (g : Nat → Value), l.filterMap (fun m => some (g m)) = l.map g := fun l g => by
    induction l with
    | nil => rfl
    | cons a r ih => simp [ih]
  rw [e2]
  refine List.ext_getElem (by simp) fun i h1 h2 => ?_
  simp at h1
  simp only [List.getElem_map, List.getElem_range]
  rw [List.getD_eq_getElem?_getD, List.getElem?_eq_getElem (by simpa using h1)]
  rfl
section
variable {prog : Program} {w : World} {A : Around} {E : Value → Shared → Prop} {s : Shared}
theorem slice_rev {sl : Addr} {n : Nat} {tk : Tok} {Q : Int × Int × Nat → Shared → Prop} (hs : s.heap.IsSliceOf sl .none .none (.int (-1) tk)) (h : Q ((n : Int) - 1, -1, n) s) : wpAny (model prog w) A (Builtin.Slice.sliceApplied (.ref sl) (pure (n : Int))) Q E s := by
  obtain ⟨os, hos, hcs, hds⟩ := id hs
  unfold Builtin.Slice.sliceApplied Builtin.Slice.sliceFields
  refine wpAny_bind (wpAny_bind (wpAny_field hos hds (x := .none) rfl (wpAny_bind (wpAny_field hos hds (x := .none) rfl (wpAny_bind (wpAny_field hos hds (x := .int (-1) tk) rfl (wpAny_pure (wpAny_bind (slicePart_int ?_)))))))))
  show wpAny _ _ (if ((-1 : Int) == 0) = true then _ else _) _ _ s
  rw [if_neg (by decide)]
  refine wpAny_bind (slicePart_none (wpAny_bind (slicePart_none (wpAny_bind (wpAny_pure ?_)))))
  show wpAny _ _ (match Builtin.Slice.sliceAdjust none none (-1) (n : Int) with | (lo, hi) => pure (lo, (-1 : Int), Builtin.Slice.slicePlaces lo hi (-1))) _ _ s
  rw [rev_adjust]
  show wpAny _ _ (pure ((n : Int) - 1, (-1 : Int), Builtin.Slice.slicePlaces ((n : Int) - 1) (-1) (-1))) _ _ s
  rw [rev_places]
  exact wpAny_pure h
theorem getItem_tuple_rev {t sl : Addr} {items : List Value} {tk : Tok} {Q : Value → Shared → Prop} (ht : IsTup s.heap t items.toArray) (hs : s.heap.IsSliceOf sl .none .none (.int (-1) tk))
    (h : Q (.ref s.heap.objs.size) { s with heap := s.heap.push { cls := .type "tuple", data := .seq items.reverse.toArray } }) (hsz : items.length ≤ sizeLine) : wpAny (model prog w) A (getItem (.ref t) (.ref sl)) Q E s := by
  have hz : sizeOk (.seq items.reverse.toArray) := by
    show items.reverse.toArray.size ≤ sizeLine
    rw [List.size_toArray, List.length_reverse]
    exact hsz
  obtain ⟨os, hos, hcs, hds⟩ := id hs
  have hTs : s.TypeIs (.ref sl) "slice" := ⟨os, hos, hcs⟩
  unfold getItem
  try with_reducible refine wpAny_holding ?_
  first | refine wpAny_bind (wpAny_pure ?_) | skip
  refine wpAny_bind (wpAny_sequenceKey ht.typeIs (by decide) (wpAny_bind (wpAny_callSpecial?_slot (name := Str.ofString "__getitem__") ht.typeIs PyProof.Rows.slot_tuple_getitem (wpAny_call_entry PyProof.Rows.slot_tuple_getitem ht.typeIs entry_tuple_getitem ?_ (args_tuple_getitem _ _)))))
  show wpAny _ _ (Builtin.Tuple.tupleItemsOf (.ref t) >>= _) _ _ s
  refine wpAny_bind (tupleItemsOf_ ht (wpAny_bind (wpAny_typeOf hTs ?_)))
  rw [if_pos (by decide)]
  refine wpAny_bind (slice_rev (n := items.toArray.size) hs ?_)
  have hno : ¬ ((((items.toArray.size : Nat) : Int) - 1 == 0 && (-1 : Int) == 1 && items.toArray.size == items.toArray.size) = true) := by simp
  show wpAny _ _ (if (((items.toArray.size : Nat) : Int) - 1 == 0 && (-1 : Int) == 1 && items.toArray.size == items.toArray.size) = true then _ else _) _ _ s
  rw [if_neg hno]
  have e : ((List.range items.toArray.size).filterMap fun (m : Nat) => items.toArray[(((items.toArray.size : Nat) : Int) - 1 + (m : Int) * (-1)).toNat]?) = items.reverse := rev_pick items
  rw [e]
  first
    | exact wpAny_bind (m := Builtin.Tuple.tupleExact _) (wpAny_newObj_type (wpAny_pure ⟨_, rfl, wpAny_pure h⟩) hz)
    | exact wpAny_bind (m := Builtin.Tuple.tupleExact _) (wpAny_newObj_type (wpAny_bind (wpAny_pure (wpAny_pure ⟨_, rfl, wpAny_pure h⟩))) hz)
    | exact wpAny_bind (wpAny_bind (m := Builtin.Tuple.tupleExact _) (wpAny_newObj_type (wpAny_pure (wpAny_pure ⟨_, rfl, wpAny_pure h⟩)) hz))
    | exact wpAny_bind (wpAny_bind (m := Builtin.Tuple.tupleExact _) (wpAny_newObj_type (wpAny_pure ⟨_, rfl, wpAny_pure h⟩) hz))
end
def eRevT (f : F1) : F1 := fun σ S => (f σ S).bind fun x S1 => match x with
  | .tup xs => .ok (.tup xs.reverse) S1
  | _ => .no
section
variable {Γ : Nat → Addr} {W : WX} {X : Cx} {pos p1 p2 p3 : Pos} {e : Expr} {f : F1}
theorem s_revT {k : Nat} (he : SE Γ X W e f) : SE Γ X W (.Subscript e (.Slice none none (some (.UnaryOp .USub (.Constant (.int 1) k p1) p2)) p3) pos) (eRevT f) := by
  refine ⟨fun pins s σ' H Q I q => ?_⟩
  obtain ⟨μ, σ, S, a0, q⟩ := q
  refine Subscript_ (thn (he.run pins s σ' H (fun v1 H1 => ∃ l xs vs μ1 S1, v1 = .ref l ∧ SqT X.K H1 l vs ∧ VRs Γ μ1 H1 xs vs ∧ Step μ H μ1 H1 ∧ MR Γ μ1 S1 H1 ∧ KD Γ μ H Q (.tup xs.reverse) S1) I (tev_of a0 q.of_bind fun d S1 μ1 v1 H1 q1 s1 a1 r1 => ?_)) fun v s1 hq => ?_)
  · split at q1
    · rename_i xs
      obtain ⟨l, vs, rfl, hl, rs⟩ := tup_at X.K r1
      exact ⟨l, xs, vs, μ1, S1, rfl, hl, rs, s1, a1.mr, q1⟩
    · exact q1.elim
  · obtain ⟨v1, H1, I1, r1, l, xs, vs, μ1, S1, rfl, hl, rs, st, m1, k1⟩ := hq
    cases r1
    have hst : PO X (some (.UnaryOp .USub (.Constant (.int 1) k p1) p2)) (tPart (tUn (rU fun i => .int (-i)) (tC (.int 1)))) := po_some (pe_un un_neg pe_int)
    refine wpAny_Slice (thn (po_none.run pins s1 σ' H1 (fun o H2 => o = none ∧ H2 = H1) I1 ⟨rfl, rfl⟩) ?_)
    rintro vl s2 ⟨o2, H2, I2, pl, rfl, rfl⟩
    refine thn (po_none.run pins s2 σ' H2 (fun o H3 => o = none ∧ H3 = H2) I2 ⟨rfl, rfl⟩) ?_
    rintro vu s3 ⟨o3, H3, I3, pu, rfl, rfl⟩
    refine thn (hst.run pins s3 σ' H3 (fun o H4 => o = some (-1) ∧ H4 = H3) I3 ⟨1, rfl, -1, rfl, rfl, rfl⟩) ?_
    rintro vx s4 ⟨o4, H4, I4, px, rfl, rfl⟩
    cases pl
    cases pu
    obtain ⟨tk, rfl⟩ : ∃ tk, vx = Value.int (-1) tk := by cases px; exact ⟨_, rfl⟩
    have I5 : Inv X pins σ' H4 { s4 with heap := s4.heap.push { cls := .type "slice", data := .fields #[.none, .none, .int (-1) tk] } } := I4.kept (t' := s4.toks) fun b ob z => Heap.get?_push_of_some _ z
    obtain ⟨its, rv, ht, hz⟩ := I5.tuple hl
    show wpAny (model X.prog X.w) X.A (subscriptTail e (.Slice none none (some (.UnaryOp .USub (.Constant (.int 1) k p1) p2)) p3) (.ref l) (.ref s4.heap.objs.size)) (EP X pins σ' Q) X.xe { s4 with heap := s4.heap.push { cls := .type "slice", data := .fields #[.none, .none, .int (-1) tk] } }
    refine tail_any (ops := [.ref l, .ref s4.heap.objs.size]) ht.typeIs PyProof.Rows.slot_tuple_getitem.lookup ?_ (by with_unfolding_all rfl)
    refine getItem_tuple_rev ht (Heap.IsSliceOf.new _ _ _ _) ?_ (by rw [← rv.length]; exact hz)
    refine ⟨.ref _, _, I5.laid (t' := s4.toks) (o := .tup vs.reverse) (fun b ob z => Heap.get?_push_of_some _ z) (Nat.le_refl _) ?_, rfl, KD.newT (KD.mono st k1) m1 rs.reverse (I5.hok.fresh (Nat.le_refl _))⟩
    exact ⟨by rw [List.length_reverse]; exact hz, its.reverse, Vals.reverse rv, IsTup.new _ _⟩
/-- xs[::-1], a list or a tuple -/
def eRev (f : F1) : F1 := fun σ S => match f σ S with
  | .ok (.tup xs) S1 => .ok (.tup xs.reverse) S1
  | r => eRevL (fun _ _ => r) σ S
theorem s_rev {k : Nat} (he : SE Γ X W e f) : SE Γ X W (.Subscript e (.Slice none none (some (.UnaryOp .USub (.Constant (.int 1) k p1) p2)) p3) pos) (eRev f) := by
  refine s_alt (s_revT he) (s_revL he) fun σ S => ?_
  unfold eRev eRevT eRevL
  cases f σ S with
  | no => exact .inr (.inr rfl)
  | ex x S1 => exact .inr (.inl rfl)
  | ok d S1 =>
    cases d with
    | tup xs => exact .inl rfl
    | _ => exact .inr (.inl rfl)
end
end Ev
/-! two lists, two tuples, item by item, with either answer -/
namespace EvQ
open PySem PySem.SeqAt
open AutoSeq1 (wpAny_loadPart')
open MeetsSeq MeetsSeq2 MeetsSeq3 SeqRoads2
section
variable {prog : Program} {w : World} {A : Around} {R : Result → Shared → Prop}
/-- the two lists, N items each -/
def Two (l b : Addr) (N : Nat) (s : Shared) (items items2 : Array Value) : Prop := ∃ n n2, s.heap.get? l = some { cls := .type "list", data := .seq items n } ∧ s.heap.get? b = some { cls := .type "list", data := .seq items2 n2 } ∧ items.size = N ∧ items2.size = N
def ListB (prog : Program) (w : World) (A : Around) (E : Value → Shared → Prop) (l b : Addr) (N : Nat) (I F : Nat → Shared → Prop) : Prop :=
  ∀ i s, I i s → ∃ items items2, Two l b N s items items2 ∧ ∀ (h1 : i < items.size) (h2 : i < items2.size), wpAny (model prog w) A.in1 (eqBool items[i] items2[i]) (fun r s' => (r = true ∧ I (i + 1) s') ∨ (r = false ∧ F i s')) E s
theorem eq_loopB (l b : Addr) (N : Nat) (I F : Nat → Shared → Prop) (hl : ListB prog w A (fun e s' => R (.error e) s') l b N I F)
    (fin : ∀ s, I N s → R (.ok (.ret (.bool true))) s) (no : ∀ i s, i < N → F i s → (∃ items items2, Two l b N s items items2) ∧ R (.ok (.ret (.bool false))) s) (k : Nat) :
    ∀ i : Nat, N - i = k → i ≤ N → ∀ s, I i s → wpAny (model prog w) A.in1 (Builtin.«list.__eq__.loop» ⟨[.ref l, .ref b, rawInt i, rawInt 2], []⟩) (GQ.FinOf prog w A R) (fun e s' => R (.error e) s') s := by
  induction k with
  | zero =>
    intro i hk hi s h
    obtain ⟨items, items2, ⟨n, n2, hl1, hb1, hs1, hs2⟩, _⟩ := hl _ _ h
    obtain rfl : i = N := by omega
    have hR : R (.ok (.ret (.bool true))) s := fin s h
    obtain ⟨hp, g, d, tk, os⟩ := s
    wp_walk using wpAny_loadPart' hl1, wpAny_loadPart' hb1
    have hi1 : items[((i : Nat) : Int).toNat]? = none := by simp; omega
    have hi2 : items2[((i : Nat) : Int).toNat]? = none := by simp; omega
    rw [hi1, hi2]
    wp_walk using wpAny_loadPart' hl1, wpAny_loadPart' hb1
    show R (.ok (.ret (.bool (items.size == items2.size)))) _
    rw [hs1, hs2]
    simpa using hR
  | succ k ih =>
    intro i hk hi s h
    obtain ⟨items, items2, ⟨n, n2, hl1, hb1, hs1, hs2⟩, turn⟩ := hl _ _ h
    have hlt : i < items.size := by omega
    have hlt2 : i < items2.size := by omega
    have ht := turn hlt hlt2
    obtain ⟨hp, g, d, tk, os⟩ := s
    wp_walk using wpAny_loadPart' hl1, wpAny_loadPart' hb1
    have hi1 : items[((i : Nat) : Int).toNat]? = some items[i] := by simp [hlt]
    have hi2 : items2[((i : Nat) : Int).toNat]? = some items2[i] := by simp [hlt2]
    have hc : ((i : Int) + 1) = ((i + 1 : Nat) : Int) := by omega
    rw [hi1, hi2]
    refine wpAny_bind (wpAny_mono ht (fun r s2 h2 => ?_) fun _ _ x => x)
    rcases h2 with ⟨rfl, h2⟩ | ⟨rfl, h2⟩
    · have hrec := ih (i + 1) (by omega) (by omega) s2 h2
      obtain ⟨hp2, g2, d2, tk2, os2⟩ := s2
      wp_walk
      rw [hc]
      exact ⟨plainId_quiet plain_eq_loop _, codeAny_builtin entry_eq_loop (by
        rw [Around.under_plainId plain_eq_loop _]
        exact hrec)⟩
    · obtain ⟨⟨items3, items4, n3, n4, hl3, hb3, hs3, hs4⟩, hR⟩ := no i s2 (by omega) h2
      obtain ⟨hp2, g2, d2, tk2, os2⟩ := s2
      wp_walk using wpAny_loadPart' hl3, wpAny_loadPart' hb3
      have hi3 : items3[((i : Nat) : Int).toNat]? = some (items3[i]'(by omega)) := by simp
      have hi4 : items4[((i : Nat) : Int).toNat]? = some (items4[i]'(by omega)) := by simp
      rw [hi3, hi4]
      wp_walk using wpAny_loadPart' hl3, wpAny_loadPart' hb3
      exact hR
theorem list_eqB (l b : Addr) (N : Nat) (I F : Nat → Shared → Prop) (hl : ListB prog w A (fun e s' => R (.error e) s') l b N I F)
    (fin : ∀ s, I N s → R (.ok (.ret (.bool true))) s) (no : ∀ i s, i < N → F i s → (∃ items items2, Two l b N s items items2) ∧ R (.ok (.ret (.bool false))) s) {s : Shared} (h : I 0 s) :
    wpAny (model prog w) A.in1 (Builtin.«list.__eq__» ⟨[.ref l, .ref b], []⟩) (GQ.FinOf prog w A R) (fun e s' => R (.error e) s') s := by
  obtain ⟨items, items2, ⟨n, n2, hl1, hb1, hs1, hs2⟩, _⟩ := hl _ _ h
  have hrec := eq_loopB (A := A) (R := R) l b N I F hl fin no _ 0 rfl (Nat.zero_le _) s h
  obtain ⟨hp, g, d, tk, os⟩ := s
  have f3 := AutoSeq1.sub_list_list
  have hne : ¬ (items.size != items2.size) = true := by simp [hs1, hs2]
  wp_walk using wpAny_loadPart' hl1, wpAny_loadPart' hb1
  exact ⟨plainId_quiet plain_eq_loop _, codeAny_builtin entry_eq_loop (by
    rw [Around.under_plainId plain_eq_loop _]
    exact hrec)⟩
/-- of other lengths -/
theorem list_eqN (l b : Addr) {items items2 : Array Value} {n n2 : Nat} {s : Shared} (hl1 : s.heap.get? l = some { cls := .type "list", data := .seq items n }) (hb1 : s.heap.get? b = some { cls := .type "list", data := .seq items2 n2 }) (hne : items.size ≠ items2.size)
    (hR : R (.ok (.ret (.bool false))) s) : wpAny (model prog w) A.in1 (Builtin.«list.__eq__» ⟨[.ref l, .ref b], []⟩) (GQ.FinOf prog w A R) (fun e s' => R (.error e) s') s := by
  obtain ⟨hp, g, d, tk, os⟩ := s
  have f3 := AutoSeq1.sub_list_list
  have hne : (items.size != items2.size) = true := by simpa using hne
  wp_walk using wpAny_loadPart' hl1, wpAny_loadPart' hb1
  exact hR
theorem tuple_eqB (l b : Addr) (items items2 : Array Value) (n n2 : Nat) (dd dd2 : Option Addr) (sl sl2 : Array (Option Value)) (I : Nat → Shared → Prop)
    (turn : ∀ i (h1 : i < items.size) (h2 : i < items2.size) s, I i s → wpAny (model prog w) A.in1 (eqBool items[i] items2[i]) (fun r s' => (r = true ∧ I (i + 1) s') ∨ (r = false ∧ R (.ok (.ret (.bool false))) s')) (fun e s' => R (.error e) s') s)
    (fin : ∀ s, I (min items.size items2.size) s → R (.ok (.ret (.bool (items.size == items2.size)))) s) {s : Shared} (hl1 : s.heap.get? l = some { cls := .type "tuple", dict := dd, data := .seq items n, slots := sl }) (hb1 : s.heap.get? b = some { cls := .type "tuple", dict := dd2, data := .seq items2 n2, slots := sl2 }) (h : I 0 s) :
    wpAny (model prog w) A.in1 (Builtin.«tuple.__eq__» ⟨[.ref l, .ref b], []⟩) (GQ.FinOf prog w A R) (fun e s' => R (.error e) s') s := by
  have f2 := AutoSeq1.sub_tuple_tuple
  have hZ : (items.toList.zip items2.toList).length = min items.size items2.size := by simp
  have h0 := h
  obtain ⟨hp, g, d, tk, os⟩ := s
  wp_walk using wpAny_loadPart' hl1, wpAny_loadPart' hb1, wpAny_forIn_list _ (fun rest b s' => b.1 = none ∧ ∃ i, rest = (items.toList.zip items2.toList).drop i ∧ i ≤ min items.size items2.size ∧ I i s') _
  case turn =>
    rintro ⟨y, x⟩ rest b s' ⟨hb', i, hz, hi, hI⟩
    have hlt : i < (items.toList.zip items2.toList).length := by
      rcases Nat.lt_or_ge i (items.toList.zip items2.toList).length with h' | h'
      · exact h'
      · rw [List.drop_of_length_le h'] at hz; cases hz
    have h1 : i < items.size := by omega
    have h2 : i < items2.size := by omega
    rw [List.drop_eq_getElem_cons hlt] at hz
    injection hz with hyx hrest
    have hy : y = items[i] := by have := congrArg Prod.fst hyx; simpa using this
    have hx : x = items2[i] := by have := congrArg Prod.snd hyx; simpa using this
    subst hy hx
    refine wpAny_bind (wpAny_mono (turn i h1 h2 s' hI) (fun r s2 q2 => ?_) fun _ _ x => x)
    rcases q2 with ⟨rfl, q2⟩ | ⟨rfl, q2⟩
    · wp_walk
      exact ⟨rfl, i + 1, hrest, by omega, q2⟩
    · wp_walk
      exact q2
  case fin =>
    rintro ⟨b1, b2⟩ s' ⟨hb', i, hz, hi, hI⟩
    simp only at hb'
    subst hb'
    have hge : min items.size items2.size ≤ i := by
      rcases Nat.lt_or_ge i (items.toList.zip items2.toList).length with h' | h'
      · rw [List.drop_eq_getElem_cons h'] at hz; cases hz
      · exact hZ ▸ h'
    obtain rfl : i = min items.size items2.size := by omega
    have hR := fin s' hI
    wp_walk
    exact hR
  case h =>
    exact ⟨rfl, 0, rfl, Nat.zero_le _, h0⟩
end
end EvQ
namespace Ev
open PySem PySem.Spec PyProof.Rows L2
/-! ### == of data with instances within -/
def isRef : D → Bool
  | .non => false
  | .bl _ => false
  | .int _ => false
  | .str _ => false
  | .ty _ => false
  | _ => true
mutual
/-- what one and the same thing may be told as -/
def agree : D → D → Bool
  | .non, .non => true
  | .bl a, .bl b => a == b
  | .int a, .int b => a == b
  | .str a, .str b => a == b
  | .ty a, .ty b => a == b
  | .tup xs, .tup ys => agreeL xs ys
  | .lst xs, .lst ys => agreeL xs ys
  | .obj _ xs, .obj _ ys => agreeF xs ys
  | x, y => isRef x && isRef y
def agreeL : List D → List D → Bool
  | [], [] => true
  | x :: xs, y :: ys => agree x y && agreeL xs ys
  | _, _ => false
def agreeF : List (Str × D) → List (Str × D) → Bool
  | [], [] => true
  | (_, x) :: xs, (_, y) :: ys => agree x y && agreeF xs ys
  | _, _ => false
end
section
variable {Γ : Nat → Addr} {μ : Mp} {H : Hp}
theorem VR.isRef {d : D} {p : Addr} (r : VR Γ μ H d (.ref p)) : Ev.isRef d = true := by cases r <;> rfl
mutual
theorem VR.agree : ∀ {d e : D} {v : V}, VR Γ μ H d v → VR Γ μ H e v → Ev.agree d e = true
  | _, _, _, .non, b => by cases b; unfold Ev.agree; rfl
  | _, _, _, .bl _, b => by cases b; unfold Ev.agree; simp
  | _, _, _, .int _, b => by cases b; unfold Ev.agree; simp
  | _, _, _, .str _, b => by cases b; unfold Ev.agree; simp
  | _, _, _, .ty _, b => by cases b; unfold Ev.agree; simp
  | _, _, _, .gl g, b => by
    generalize Γ g = q at b
    cases b <;> (unfold Ev.agree; rfl)
  | _, _, _, .loc _, b => by cases b <;> (unfold Ev.agree; rfl)
  | _, _, _, .tup n h r, b => by
    cases b with
    | tup n2 h2 r2 =>
      have e := h.symm.trans h2
      cases e
      unfold Ev.agree
      exact r.agree r2
    | _ => unfold Ev.agree; rfl
  | _, _, _, .lst n h r, b => by
    cases b with
    | lst n2 h2 r2 =>
      have e := h.symm.trans h2
      cases e
      unfold Ev.agree
      exact r.agree r2
    | _ => unfold Ev.agree; rfl
  | _, _, _, .scr n h r, b => by cases b <;> (unfold Ev.agree; rfl)
  | _, _, _, .dk n h r, b => by cases b <;> (unfold Ev.agree; rfl)
  | _, _, _, .dt n h r, b => by cases b <;> (unfold Ev.agree; rfl)
  | _, _, _, .obj n h r, b => by
    cases b with
    | obj n2 h2 r2 =>
      obtain ⟨_, _, e⟩ := HO.ins.inj (Option.some.inj (h.symm.trans h2))
      subst e
      unfold Ev.agree
      exact r.agree r2
    | _ => unfold Ev.agree; rfl
theorem VRs.agree : ∀ {d e : List D} {v : List V}, VRs Γ μ H d v → VRs Γ μ H e v → agreeL d e = true
  | _, _, _, .nil, .nil => by unfold agreeL; rfl
  | _, _, _, .cons a r, .cons b q => by unfold agreeL; rw [a.agree b, r.agree q]; rfl
theorem FRs.agree : ∀ {d e : List (Str × D)} {v : List (Str × V)}, FRs Γ μ H d v → FRs Γ μ H e v → agreeF d e = true
  | _, _, _, .nil, .nil => by unfold agreeF; rfl
  | _, _, _, .cons a r, .cons b q => by unfold agreeF; rw [a.agree b, r.agree q]; rfl
end
end
end Ev
namespace Ev
open PySem PySem.Spec PyProof.Rows L2
/-! ### == within, by the text's own __eq__ for the classes that fe tells: it changes nothing -/
def scal : D → Option V
  | .non => some .non
  | .bl b => some (.bl b)
  | .int i => some (.int i)
  | .str s => some (.str s)
  | _ => none
def isTy : D → Bool
  | .ty _ => true
  | _ => false
abbrev EqD := D → D → Sto → Option Bool
/-- an item: what may be one thing must be equal -/
def eqItem (eq : EqD) : EqD := fun x y S => match scal x, scal y with
  | some a, some b => some (eqV a b)
  | none, none => if isTy x = true ∨ isTy y = true then none else match eq x y S with
    | some b => if b = true ∨ agree x y = false then some b else none
    | none => none
  | _, _ => none
def eqTup (eq : EqD) : List D → List D → Sto → Option Bool
  | x :: xs, y :: ys, S => match eq x y S with
    | some true => eqTup eq xs ys S
    | r => r
  | [], [], _ => some true
  | _, _, _ => some false
def eqD (fe : Nat → Option EqD) : Nat → EqD
  | 0 => fun _ _ _ => none
  | n + 1 => fun x y S => match x, y with
    | .tup xs, .tup ys => eqTup (eqItem (eqD fe n)) xs ys S
    | x, y => match seqL x S, seqL y S with
      | some xs, some ys => if xs.length = ys.length then eqTup (eqItem (eqD fe n)) xs ys S else some false
      | none, none => match insOf x S, insOf y S with
        | some (c, _), some (c', _) => if c = c' then match fe c with
          | some g => g x y S
          | none => none else none
        | _, _ => none
      | _, _ => none
/-- what the classes must have -/
def EqOwn (Γ : Nat → Addr) (X : Cx) (k : Nat) (fe : Nat → Option EqD) : Prop :=
  ∀ c g, fe c = some g → ∃ fa F, PySem.W.findIn X.K (.ref (Γ c)) "__eq__" = some (some (.ref fa)) ∧ PySem.W.isFn X.K (.ref fa) = true ∧ FnF Γ X.prog X.w X.K X.mg X.base k fa F ∧ ∀ x y S b, g x y S = some b → ∃ T, F [x, y] S = .ok (.bl b) (S ++ T)
section
variable {Γ : Nat → Addr} {X : Cx} {k : Nat} {fe : Nat → Option EqD}
theorem scal_at {μ : Mp} {H : Hp} {d : D} {v a : V} (r : VR Γ μ H d v) (h : scal d = some a) : v = a ∧ flatV a = true := by
  unfold scal at h
  split at h <;> first | (cases h; cases r; exact ⟨rfl, rfl⟩) | cases h
/-- the machine stands as before -/
def Same (Γ : Nat → Addr) (X : Cx) (pins : List (Addr × Obj)) (σ' : L2.St) (μ : Mp) (H : Hp) (S : Sto) (s' : Shared) : Prop := ∃ H', Inv X pins σ' H' s' ∧ Step μ H μ H' ∧ MR Γ μ S H'
theorem Same.trans {pins : List (Addr × Obj)} {σ' : L2.St} {μ : Mp} {H H1 : Hp} {S : Sto} {s' : Shared} (st : Step μ H μ H1) (h : Same Γ X pins σ' μ H1 S s') : Same Γ X pins σ' μ H S s' := by
  obtain ⟨H', I, s1, m⟩ := h
  exact ⟨H', I, st.trans s1, m⟩
def RcJ (Γ : Nat → Addr) (X : Cx) (m : Nat) (eq : EqD) : Prop :=
  ∀ (A : Around) (pins : List (Addr × Obj)) (s : Shared) (σ' : L2.St) (H : Hp) (x' y' : V) (u v : Value) (μ : Mp) (x y : D) (S : Sto) (b : Bool), Sub X m A → Inv X pins σ' H s → RelV x' u → RelV y' v → VR Γ μ H x x' → VR Γ μ H y y' → MR Γ μ S H →
    eq x y S = some b → wpAny (model X.prog X.w) A (richCompare .Eq u v) (fun r s' => r = .bool b ∧ Same Γ X pins σ' μ H S s') X.xe s
def EqJ (Γ : Nat → Addr) (X : Cx) (m : Nat) (eq : EqD) : Prop :=
  ∀ (A : Around) (pins : List (Addr × Obj)) (s : Shared) (σ' : L2.St) (H : Hp) (x' y' : V) (u v : Value) (μ : Mp) (x y : D) (S : Sto) (b : Bool), Sub X m A → Inv X pins σ' H s → RelV x' u → RelV y' v → VR Γ μ H x x' → VR Γ μ H y y' → MR Γ μ S H →
    eq x y S = some b → wpAny (model X.prog X.w) A (eqBool u v) (fun r s' => r = b ∧ Same Γ X pins σ' μ H S s') X.xe s
theorem scal_ref {μ : Mp} {H : Hp} {d : D} {v : V} (r : VR Γ μ H d v) (h : scal d = none) (ht : isTy d ≠ true) : ∃ p, v = .ref p := by
  cases r <;> first | exact ⟨_, rfl⟩ | (cases h; done) | exact absurd rfl ht
/-- .. within a list or a tuple -/
theorem RcJ.item {m : Nat} {eq : EqD} (h : RcJ Γ X m eq) : EqJ Γ X m (eqItem eq) := by
  intro A pins s σ' H x' y' u v μ x y S b sb I rx ry vx vy mr e
  unfold eqItem at e
  split at e
  · rename_i a c ea ec
    cases e
    obtain ⟨rfl, fa⟩ := scal_at vx ea
    obtain ⟨rfl, fc⟩ := scal_at vy ec
    exact eqAt_V (A := A) (s := s) rx ry fa fc X.prog X.w X.xe _ ⟨rfl, H, I, Step.refl, mr⟩
  · rename_i ea ec
    split at e
    · cases e
    · rename_i ht
      obtain ⟨p, rfl⟩ := scal_ref vx ea fun z => ht (.inl z)
      obtain ⟨q, rfl⟩ := scal_ref vy ec fun z => ht (.inr z)
      obtain rfl : u = Value.ref p := rx
      obtain rfl : v = Value.ref q := ry
      split at e
      · rename_i b0 e0
        split at e
        · rename_i hb
          cases e
          by_cases hpq : p = q
          · subst hpq
            have ag := vx.agree vy
            obtain rfl : b = true := by
              rcases hb with hb | hb
              · exact hb
              · rw [ag] at hb; cases hb
            exact SeqAt.EqAt.same (A := A) (s := s) (.ref p) X.prog X.w X.xe _ ⟨rfl, H, I, Step.refl, mr⟩
          · exact GQ.eqBool_refG hpq (wpAny_mono (h A pins s σ' H (.ref p) (.ref q) _ _ μ x y S b sb I rfl rfl vx vy mr e0) (fun r s' z => ⟨b, z.1, rfl, z.2⟩) fun _ _ z => z)
        · cases e
      · cases e
  · cases e
/-- a turn of the loop over the items -/
theorem eq_turn {m : Nat} {eq : EqD} (h : EqJ Γ X m eq) {A : Around} (sb : Sub X (m + 1) A) {pins : List (Addr × Obj)} {σ' : L2.St} {μ : Mp} {H : Hp} {S : Sto} {xs ys : List D} {vs ws : List V} {its its2 : List Value} {b : Bool}
    (r1 : VRs Γ μ H xs vs) (r2 : VRs Γ μ H ys ws) (u1 : Vals vs its) (u2 : Vals ws its2) (i : Nat) (h1 : i < its.toArray.size) (h2 : i < its2.toArray.size) (e : eqTup eq (xs.drop i) (ys.drop i) S = some b) (s' : Shared) (l : Same Γ X pins σ' μ H S s') :
    wpAny (model X.prog X.w) A.in1 (eqBool its.toArray[i] its2.toArray[i]) (fun r s2 => (r = true ∧ eqTup eq (xs.drop (i + 1)) (ys.drop (i + 1)) S = some b ∧ Same Γ X pins σ' μ H S s2) ∨ (r = false ∧ b = false ∧ Same Γ X pins σ' μ H S s2)) X.xe s' := by
  obtain ⟨H1, I1, st, m1⟩ := l
  have l1 := r1.length
  have l2 := r2.length
  have l3 := u1.length
  have l4 := u2.length
  simp only [List.size_toArray] at h1 h2
  have k1 : i < xs.length := by omega
  have k2 : i < ys.length := by omega
  obtain ⟨v, ev, rv⟩ := r1.get (List.getElem?_eq_getElem k1)
  obtain ⟨w, ew, rw'⟩ := r2.get (List.getElem?_eq_getElem k2)
  obtain ⟨a, ea, ra⟩ := u1.get ev
  obtain ⟨c, ec, rc⟩ := u2.get ew
  have ga : its.toArray[i]'(by simpa using h1) = a := by
    rw [List.getElem?_eq_getElem h1] at ea
    simpa using ea
  have gc : its2.toArray[i]'(by simpa using h2) = c := by
    rw [List.getElem?_eq_getElem h2] at ec
    simpa using ec
  rw [ga, gc]
  rw [List.drop_eq_getElem_cons k1, List.drop_eq_getElem_cons k2] at e
  unfold eqTup at e
  cases q : eq xs[i] ys[i] S with
  | none => rw [q] at e; cases e
  | some b0 =>
    refine wpAny_mono (h A.in1 pins s' σ' H1 v w a c μ _ _ S b0 sb.in1 I1 ra rc (rv.mono st) (rw'.mono st) m1 q) (fun r s2 z => ?_) fun _ _ z => z
    obtain ⟨rfl, z⟩ := z
    rw [q] at e
    cases r with
    | true => exact .inl ⟨rfl, e, Same.trans st z⟩
    | false => cases e; exact .inr ⟨rfl, rfl, Same.trans st z⟩
theorem eqTup_end {eq : EqD} {S : Sto} {b : Bool} : ∀ {xs ys : List D}, eqTup eq (xs.drop (min xs.length ys.length)) (ys.drop (min xs.length ys.length)) S = some b → b = (xs.length == ys.length) := by
  intro xs ys h
  rcases Nat.lt_trichotomy xs.length ys.length with z | z | z
  · rw [Nat.min_eq_left (Nat.le_of_lt z), List.drop_length, List.drop_eq_getElem_cons z] at h
    unfold eqTup at h
    cases h
    symm
    simpa using Nat.ne_of_lt z
  · rw [z, Nat.min_self, ← z, List.drop_length, z, List.drop_length] at h
    unfold eqTup at h
    cases h
    rw [z]
    simp
  · rw [Nat.min_eq_right (Nat.le_of_lt z), List.drop_length, List.drop_eq_getElem_cons z] at h
    unfold eqTup at h
    cases h
    symm
    simpa using Nat.ne_of_gt z
end
end Ev
namespace Ev
open PySem PySem.Spec PyProof.Rows L2
section
variable {Γ : Nat → Addr} {X : Cx} {k : Nat} {fe : Nat → Option EqD}
theorem rc_tupB {m : Nat} {eq : EqD} (h : EqJ Γ X m eq) {A : Around} (sb : Sub X (m + 1) A) {pins : List (Addr × Obj)} {s : Shared} {σ' : L2.St} {H : Hp} {p q : Addr} {μ : Mp} {xs ys : List D} {S : Sto} {b : Bool} (I : Inv X pins σ' H s)
    (vx : VR Γ μ H (.tup xs) (.ref p)) (vy : VR Γ μ H (.tup ys) (.ref q)) (mr : MR Γ μ S H) (e : eqTup eq xs ys S = some b) : wpAny (model X.prog X.w) A (richCompare .Eq (.ref p) (.ref q)) (fun r s' => r = .bool b ∧ Same Γ X pins σ' μ H S s') X.xe s := by
  obtain ⟨p', vs, ep, hx, r1⟩ := tup_at X.K vx
  cases ep
  obtain ⟨q', ws, eq', hy, r2⟩ := tup_at X.K vy
  cases eq'
  obtain ⟨its, u1, t1, z1⟩ := I.tuple hx
  obtain ⟨its2, u2, t2, z2⟩ := I.tuple hy
  obtain ⟨⟨cls, dd, data, sl⟩, ho, hc, n, hd⟩ := id t1
  obtain ⟨⟨cls2, dd2, data2, sl2⟩, ho2, hc2, n2, hd2⟩ := id t2
  simp only at hc hd hc2 hd2
  subst hc hd hc2 hd2
  have l1 := r1.length
  have l2 := r2.length
  have l3 := u1.length
  have l4 := u2.length
  refine wpAny_richCompare_same_room (op := .Eq) ⟨_, ho, rfl⟩ ⟨_, ho2, rfl⟩ F.slot_tuple_eq (GQ.call_here F.slot_tuple_eq ⟨_, ho, rfl⟩ F.entry_tuple_eq (F.args_tuple_eq_2 _ _) ?_) sb.room.units0
  refine EvQ.tuple_eqB (R := wants (fun v s' => v ≠ .notImplemented ∧ v = .bool b ∧ Same Γ X pins σ' μ H S s') X.xe) p q its.toArray its2.toArray n n2 dd dd2 sl sl2 (fun i s' => eqTup eq (xs.drop i) (ys.drop i) S = some b ∧ Same Γ X pins σ' μ H S s') (fun i h1 h2 s' l => ?_) (fun s' l => ?_) ho ho2 ⟨e, H, I, Step.refl, mr⟩
  · refine wpAny_mono (eq_turn h sb r1 r2 u1 u2 i h1 h2 l.1 s' l.2) (fun r s2 z => ?_) fun _ _ z => z
    rcases z with ⟨rfl, z⟩ | ⟨rfl, rfl, z⟩
    · exact .inl ⟨rfl, z⟩
    · exact .inr ⟨rfl, (fun x => nomatch x), rfl, z⟩
  · have em : min its.toArray.size its2.toArray.size = min xs.length ys.length := by simp only [List.size_toArray]; omega
    rw [em] at l
    have eb := eqTup_end l.1
    have es : (its.toArray.size == its2.toArray.size) = b := by
      rw [eb, List.size_toArray, List.size_toArray, ← l3, ← l4, ← l1, ← l2]
    show (Value.bool (its.toArray.size == its2.toArray.size)) ≠ .notImplemented ∧ Value.bool (its.toArray.size == its2.toArray.size) = .bool b ∧ _
    rw [es]
    exact ⟨(fun x => nomatch x), rfl, l.2⟩
theorem rc_lstB {m : Nat} {eq : EqD} (h : EqJ Γ X m eq) {A : Around} (sb : Sub X (m + 1) A) {pins : List (Addr × Obj)} {s : Shared} {σ' : L2.St} {H : Hp} {p q : Addr} {μ : Mp} {x y : D} {xs ys : List D} {S : Sto} {b : Bool} (I : Inv X pins σ' H s)
    (vx : VR Γ μ H x (.ref p)) (vy : VR Γ μ H y (.ref q)) (mr : MR Γ μ S H) (ex : seqL x S = some xs) (ey : seqL y S = some ys) (e : (if xs.length = ys.length then eqTup eq xs ys S else some false) = some b) :
    wpAny (model X.prog X.w) A (richCompare .Eq (.ref p) (.ref q)) (fun r s' => r = .bool b ∧ Same Γ X pins σ' μ H S s') X.xe s := by
  have here : ∀ s', Same Γ X pins σ' μ H S s' → ∃ (H1 : Hp) (vs ws : List V) (its its2 : List Value) (n n2 : Nat), Inv X pins σ' H1 s' ∧ Step μ H μ H1 ∧ MR Γ μ S H1 ∧ VRs Γ μ H1 xs vs ∧ VRs Γ μ H1 ys ws ∧ Vals vs its ∧ Vals ws its2 ∧
      s'.heap.get? p = some { cls := .type "list", data := .seq its.toArray n } ∧ s'.heap.get? q = some { cls := .type "list", data := .seq its2.toArray n2 } ∧ its.toArray.size = xs.length ∧ its2.toArray.size = ys.length := fun s' l => by
    obtain ⟨H1, I1, st, m1⟩ := l
    obtain ⟨p', vs, ep, hp, r1⟩ := seqL_at m1 (vx.mono st) ex
    cases ep
    obtain ⟨q', ws, eq', hq, r2⟩ := seqL_at m1 (vy.mono st) ey
    cases eq'
    obtain ⟨z1, its, n, u1, o1⟩ := I1.hok p _ hp
    obtain ⟨z2, its2, n2, u2, o2⟩ := I1.hok q _ hq
    have l1 := r1.length
    have l2 := r2.length
    have l3 := u1.length
    have l4 := u2.length
    exact ⟨H1, vs, ws, its, its2, n, n2, I1, st, m1, r1, r2, u1, u2, o1, o2, by simp only [List.size_toArray]; omega, by simp only [List.size_toArray]; omega⟩
  have s0 : Same Γ X pins σ' μ H S s := ⟨H, I, Step.refl, mr⟩
  obtain ⟨_, _, _, its, its2, n, n2, _, _, _, _, _, _, _, o1, o2, z1, z2⟩ := here s s0
  refine wpAny_richCompare_same_room (op := .Eq) ⟨_, o1, rfl⟩ ⟨_, o2, rfl⟩ F.slot_list_eq (GQ.call_here F.slot_list_eq ⟨_, o1, rfl⟩ F.entry_list_eq (F.args_list_eq_2 _ _) ?_) sb.room.units0
  split at e
  · rename_i hl
    refine EvQ.list_eqB (R := wants (fun v s' => v ≠ .notImplemented ∧ v = .bool b ∧ Same Γ X pins σ' μ H S s') X.xe) p q xs.length (fun i s' => eqTup eq (xs.drop i) (ys.drop i) S = some b ∧ Same Γ X pins σ' μ H S s') (fun _ s' => b = false ∧ Same Γ X pins σ' μ H S s') (fun i s' l => ?_) (fun s' l => ?_) (fun i s' _ l => ?_) ⟨e, s0⟩
    · obtain ⟨H1, vs, ws, its, its2, n, n2, I1, st, m1, r1, r2, u1, u2, o1, o2, z1, z2⟩ := here s' l.2
      refine ⟨its.toArray, its2.toArray, ⟨n, n2, o1, o2, z1, by rw [z2, hl]⟩, fun h1 h2 => wpAny_mono (eq_turn h sb r1 r2 u1 u2 i h1 h2 l.1 s' ⟨H1, I1, Step.refl, m1⟩) (fun r s2 z => ?_) fun _ _ z => z⟩
      rcases z with ⟨rfl, z, l2⟩ | ⟨rfl, rfl, l2⟩
      · exact .inl ⟨rfl, z, Same.trans st l2⟩
      · exact .inr ⟨rfl, rfl, Same.trans st l2⟩
    · have z := l.1
      have em : xs.length = min xs.length ys.length := by omega
      rw [em] at z
      have eb := eqTup_end z
      obtain rfl : b = true := by rw [eb, hl]; simp
      exact ⟨(fun x => nomatch x), rfl, l.2⟩
    · obtain ⟨rfl, l⟩ := l
      obtain ⟨H1, vs, ws, its, its2, n, n2, I1, st, m1, r1, r2, u1, u2, o1, o2, z1, z2⟩ := here s' l
      exact ⟨⟨its.toArray, its2.toArray, n, n2, o1, o2, z1, by rw [z2, hl]⟩, (fun x => nomatch x), rfl, l⟩
  · rename_i hl
    cases e
    exact EvQ.list_eqN (R := wants (fun v s' => v ≠ .notImplemented ∧ v = .bool false ∧ Same Γ X pins σ' μ H S s') X.xe) p q o1 o2 (by omega) ⟨(fun x => nomatch x), rfl, s0⟩
theorem rc_insB (ow : EqOwn Γ X k fe) (pz : Pz X W0) {A : Around} (sb : Sub X k A) {pins : List (Addr × Obj)} {s : Shared} {σ' : L2.St} {H : Hp} {x' y' : V} {u v : Value} {μ : Mp} {x y : D} {S : Sto} {b : Bool} {c : Nat} {fs gs : List (Str × D)} {g : EqD} (I : Inv X pins σ' H s) (rx : RelV x' u) (ry : RelV y' v)
    (vx : VR Γ μ H x x') (vy : VR Γ μ H y y') (mr : MR Γ μ S H) (ex : insOf x S = some (c, fs)) (ey : insOf y S = some (c, gs)) (eg : fe c = some g) (e : g x y S = some b) :
    wpAny (model X.prog X.w) A (richCompare .Eq u v) (fun r s' => r = .bool b ∧ Same Γ X pins σ' μ H S s') X.xe s := by
  obtain ⟨fa, F, hs, hf, G, he⟩ := ow c g eg
  obtain ⟨p, dx, vs, rfl, hp, _⟩ := insOf_at mr vx ex
  obtain ⟨q, dy, ws, rfl, hq, _⟩ := insOf_at mr vy ey
  obtain rfl : u = Value.ref p := rx
  obtain rfl : v = Value.ref q := ry
  obtain ⟨mA, O, _⟩ := ins_get I.hok hp
  obtain ⟨od, J, _⟩ := O.look
  obtain ⟨mB, O2, _⟩ := ins_get I.hok hq
  obtain ⟨od2, J2, _⟩ := O2.look
  obtain ⟨_, hF⟩ := I.fr
  have i0 := I.env0
  have e0 : Env0 X.prog X.w X.K X.mg X.base A X.stack s H := ⟨by rw [sb.fr]; exact i0.frames, i0.mod, i0.bs, i0.bsz, i0.funs, i0.frf, i0.hok, i0.bare⟩
  obtain ⟨T, eT⟩ := he x y S b e
  refine PySem.W.cmp_K (op := .Eq) (tb := .ref (Γ c)) sb.room.units0 hF I.ok.mod.kin J J2.type (by simp [PySem.W.notFirst]) hs hf ?_
  refine thn (run_A (W := W0) (us := [.ref p, .ref q]) (vs := [.ref p, .ref q]) (Q := fun v H' => v = .bl b ∧ Step μ H μ H' ∧ MR Γ μ S H') G sb.room e0 pz I (.cons rfl (.cons rfl .nil)) (.cons vx (.cons vy .nil)) mr ?_) ?_
  · rw [eT]
    intro μ' v' H' st m' rv
    cases rv
    exact ⟨rfl, st.back, m'.cut st.isCut mr.len.symm fun i o hi => mr.bd hi⟩
  · rintro w s' ⟨z, H', I', rz, rfl, st, m'⟩
    obtain rfl : w = Value.bool b := rz
    exact ⟨rfl, H', I', st, m'⟩
/-- THE RULE: == of data with instances within -/
theorem eqD_rc (ow : EqOwn Γ X k fe) (pz : Pz X W0) : ∀ n : Nat, RcJ Γ X (k + n) (eqD fe n)
  | 0 => fun A pins s σ' H x' y' u v μ x y S b sb I rx ry vx vy mr e => by cases e
  | n + 1 => fun A pins s σ' H x' y' u v μ x y S b sb I rx ry vx vy mr e => by
    have it := (eqD_rc ow pz n).item
    unfold eqD at e
    split at e
    · rename_i xs ys
      obtain ⟨p, _, rfl, _⟩ := tup_at X.K vx
      obtain ⟨q, _, rfl, _⟩ := tup_at X.K vy
      obtain rfl : u = Value.ref p := rx
      obtain rfl : v = Value.ref q := ry
      exact rc_tupB it sb I vx vy mr e
    · split at e
      · rename_i xs ys ex ey
        obtain ⟨p, _, rfl, _⟩ := seqL_at mr vx ex
        obtain ⟨q, _, rfl, _⟩ := seqL_at mr vy ey
        obtain rfl : u = Value.ref p := rx
        obtain rfl : v = Value.ref q := ry
        exact rc_lstB it sb I vx vy mr ex ey e
      · split at e
        · rename_i c fs c' gs ei ej
          split at e
          · rename_i hc
            subst hc
            split at e
            · rename_i g eg
              exact rc_insB ow pz (sb.mono (by omega)) I rx ry vx vy mr ei ej eg e
            · cases e
          · cases e
        · cases e
      · cases e
/-- x == y as an operation -/
def opEqX (fe : Nat → Option EqD) (n : Nat) : Op2 := fun x y S => match eqD fe n x y S with
  | some b => .ok (.bl b) S
  | none => .no
theorem ok_eqX {W : WX} (ow : EqOwn Γ X k fe) {n : Nat} (hr : Room (k + n) X.A) : OkOp Γ X W (compareOp .Eq) (opEqX fe n) := by
  intro pins s σ' H x' y' v u Q μ x y S I rx ry vx vy m sat
  unfold opEqX at sat
  split at sat
  · rename_i b e
    show wpAny (model X.prog X.w) X.A (richCompare .Eq v u) (EP X pins σ' Q) X.xe s
    refine thn (eqD_rc ow pz0 n X.A pins s σ' H x' y' v u μ x y S b ⟨hr, rfl⟩ I rx ry vx vy m e) fun r s' z => ?_
    obtain ⟨rfl, H', I', st, m'⟩ := z
    exact ⟨.bl b, H', I', rfl, sat μ _ H' st m' (.bl b)⟩
  · exact sat.elim
end
end Ev
namespace Ev
open PySem PySem.Spec PyProof.Rows L2
section
variable {Γ : Nat → Addr} {W : WX} {X : Cx} {k : Nat} {tg e : Expr} {f : F1}
/-- one of two walks, as the data say -/
theorem i_alt {fi f1 f2 : FI} (h1 : SI Γ X W tg e f1) (h2 : SI Γ X W tg e f2) (h : ∀ σ S, fi σ S = f1 σ S ∨ fi σ S = f2 σ S ∨ fi σ S = .no) : SI Γ X W tg e fi := by
  refine ⟨fun pins s σ' H R I q => ?_⟩
  obtain ⟨μ, σ, S, a, q⟩ := q
  rcases h σ S with z | z | z
  · rw [z] at q
    exact h1.run pins s σ' H R I ⟨μ, σ, S, a, q⟩
  · rw [z] at q
    exact h2.run pins s σ' H R I ⟨μ, σ, S, a, q⟩
  · rw [z] at q
    exact q.elim
/-- for x in e: a list or tuple that stays, a dict, a text -/
def iAny (f : F1) : FI := fun σ S => (f σ S).bind fun d S1 => match d with
  | .dk kvs => .ok (keysD kvs) S1
  | .str z => .ok (charsD z) S1
  | d => match itms d with
    | some xs => .ok xs S1
    | none => .no
theorem i_any (he : SE Γ X W e f) : SI Γ X W tg e (iAny f) := by
  refine i_alt (i_keys he) (f2 := fun σ S => (f σ S).bind fun d S1 => match d with
    | .str z => .ok (charsD z) S1
    | d => match itms d with
      | some xs => .ok xs S1
      | none => .no) (i_alt (i_str he) (i_seq he) fun σ S => ?_) fun σ S => ?_
  · unfold iStrD iSeq
    cases f σ S with
    | no => exact .inl rfl
    | ex x S1 => exact .inl rfl
    | ok d S1 => cases d <;> first | exact .inl rfl | exact .inr (.inl rfl) | exact .inr (.inr rfl)
  · unfold iAny iKeysD
    cases f σ S with
    | no => exact .inl rfl
    | ex x S1 => exact .inl rfl
    | ok d S1 => cases d <;> first | exact .inl rfl | exact .inr (.inl rfl) | exact .inr (.inr rfl)
/-- == -/
def plainD (S : Sto) (x : D) : Bool := (toPy S 9 x).isSome
def opEqA (fe : Nat → Option EqD) : Op2 := opIf (fun x y S => plainD S x && plainD S y) opEq (opEqX fe 9)
theorem ok_eqA {fe : Nat → Option EqD} (ow : EqOwn Γ X k fe) (hr : Room (k + 9) X.A) : OkOp Γ X W (compareOp .Eq) (opEqA fe) := ok_if (ok_eq hr.units) (ok_eqX ow hr)
/-- a[b]: a dict, or a list or tuple -/
def isDk (x _ : D) (S : Sto) : Bool := (dictK x S).isSome
def opIxA : Op2 := opIf isDk opDGet opIx
theorem s_ixA {a b : Expr} {pos : Pos} {f g : F1} (hu : X.A.units + 1 < cLine) (ha : SE Γ X W a f) (hb : SE Γ X W b g) (h1 : NoSl b := by first | (intro _ _; with_unfolding_all rfl) | rfl | trivial) (h2 : PlainIx b := by first | (intro _ _; with_unfolding_all rfl) | rfl | trivial) : SE Γ X W (.Subscript a b pos) (eBin opIxA f g) := s_binIf (s_dget hu ha hb h1) (s_ix ha hb h2)
def isDk2 (_ y : D) (S : Sto) : Bool := (dictK y S).isSome
def opInA : Op2 := opIf isDk2 opDIn opIn
theorem s_inA {a b : Expr} {pos : Pos} {f g : F1} (hu : X.A.units + 1 < cLine) (ha : SE Γ X W a f) (hb : SE Γ X W b g) (hm : behindInMarks .In b = false := by rfl) : SE Γ X W (.Compare a [.In] [b] pos) (eBin opInA f g) := s_binIf (s_din hu ha hb hm) (s_cmp ok_in ha hb hm)
def opNotInA : Op2 := opIf isDk2 opDNotIn opNotIn
theorem s_notInA {a b : Expr} {pos : Pos} {f g : F1} (hu : X.A.units + 1 < cLine) (ha : SE Γ X W a f) (hb : SE Γ X W b g) (hm : behindInMarks .NotIn b = false := by rfl) : SE Γ X W (.Compare a [.NotIn] [b] pos) (eBin opNotInA f g) := s_binIf (s_dnotin hu ha hb hm) (s_cmp ok_notIn ha hb hm)
/-- a comparison as a test, by its value -/
theorem t_of_s {op : Op2} {a b : Expr} {o : CmpOp} {pos : Pos} {f g : F1} (h : SE Γ X W (.Compare a [o] [b] pos) (eBin op f g)) (ht : ∀ t, SE Γ X W (.Compare a [o] [b] pos) t → ST Γ X W (.Compare a [o] [b] pos) (eB t)) : ST Γ X W (.Compare a [o] [b] pos) (eB (eBin op f g)) := ht _ h
end
/-! ### a part's new cell is kept, the other new ones are forgotten -/
def keepC (S : Sto) (r : Res D) : Res D := match r with
  | .ok (.loc m) S2 => if S.length ≤ m ∧ S.length ≤ S2.length ∧ (S2.take S.length).all (bdO S.length) = true then match S2[m]? with
      | some o => if bdO S.length o = true then .ok (.loc S.length) (S2.take S.length ++ [o]) else .no
      | none => .no else .no
  | _ => .no
/-- the first n cells are the same -/
structure CutN (n : Nat) (μ2 μ : Mp) : Prop where
  at_ : ∀ i, i < n → μ.cells[i]? = μ2.cells[i]?
  not : ∀ p, p ∉ μ2 → p ∉ μ
section
variable {Γ : Nat → Addr} {μ μ2 : Mp} {H : Hp} {n : Nat}
mutual
theorem VR.cutN (c : CutN n μ2 μ) : ∀ {d v}, VR Γ μ2 H d v → Ev.bd n d = true → VR Γ μ H d v
  | _, _, .non, _ => .non
  | _, _, .bl b, _ => .bl b
  | _, _, .int b, _ => .int b
  | _, _, .str b, _ => .str b
  | _, _, .ty b, _ => .ty b
  | _, _, .gl b, _ => .gl b
  | _, _, .loc h, b => .loc (by
    unfold Ev.bd at b
    rw [c.at_ _ (of_decide_eq_true b)]
    exact h)
  | _, _, .tup n' h r, b => .tup (c.not _ n') h (r.cutN c (by unfold Ev.bd at b; exact b))
  | _, _, .lst n' h r, b => .lst (c.not _ n') h (r.cutN c (by unfold Ev.bd at b; exact b))
  | _, _, .scr n' h r, b => .scr (c.not _ n') h (r.cutN c (by unfold Ev.bd at b; exact b))
  | _, _, .dk n' h r, b => .dk (c.not _ n') h (r.cutN c (by unfold Ev.bd at b; exact b))
  | _, _, .dt n' h r, b => .dt (c.not _ n') h (r.cutN c (by unfold Ev.bd at b; exact b))
  | _, _, .obj n' h r, b => .obj (c.not _ n') h (r.cutN c (by unfold Ev.bd at b; exact b))
theorem VRs.cutN (c : CutN n μ2 μ) : ∀ {d v}, VRs Γ μ2 H d v → bdL n d = true → VRs Γ μ H d v
  | _, _, .nil, _ => .nil
  | _, _, .cons a r, b => by
    unfold bdL at b
    obtain ⟨x, y⟩ := Bool.and_eq_true_iff.mp b
    exact .cons (a.cutN c x) (r.cutN c y)
theorem KRs.cutN (c : CutN n μ2 μ) : ∀ {d v}, KRs Γ μ2 H d v → bdK n d = true → KRs Γ μ H d v
  | _, _, .nil, _ => .nil
  | _, _, .cons a r, b => by
    unfold bdK at b
    obtain ⟨x, y⟩ := Bool.and_eq_true_iff.mp b
    exact .cons (a.cutN c x) (r.cutN c y)
theorem TRs.cutN (c : CutN n μ2 μ) : ∀ {d v}, TRs Γ μ2 H d v → bdT n d = true → TRs Γ μ H d v
  | _, _, .nil, _ => .nil
  | _, _, .cons a r, b => by
    unfold bdT at b
    obtain ⟨x, y⟩ := Bool.and_eq_true_iff.mp b
    exact .cons (a.cutN c x) (r.cutN c y)
theorem FRs.cutN (c : CutN n μ2 μ) : ∀ {d v}, FRs Γ μ2 H d v → bdF n d = true → FRs Γ μ H d v
  | _, _, .nil, _ => .nil
  | _, _, .cons a r, b => by
    unfold bdF at b
    obtain ⟨x, y⟩ := Bool.and_eq_true_iff.mp b
    exact .cons (a.cutN c x) (r.cutN c y)
end
theorem OR.cutN (c : CutN n μ2 μ) {o : O} {p : Addr} (h : OR Γ μ2 H o p) (b : bdO n o = true) : OR Γ μ H o p := by
  cases h with
  | lst h r => exact .lst h (r.cutN c b)
  | dk h r => exact .dk h (r.cutN c b)
  | dt h r => exact .dt h (r.cutN c b)
  | ins h r => exact .ins h (r.cutN c b)
end
section
variable {Γ : Nat → Addr} {W : WX} {X : Cx} {e : Expr} {f : F1} {μ : Mp} {H : Hp} {S : Sto}
theorem MR.keepC {μ2 : Mp} {H2 : Hp} {S1 T : Sto} {m : Nat} {p : Addr} {o : O} (st : Step μ H μ2 H2) (m2 : MR Γ μ2 (S1 ++ T) H2) (hl : S1.length = μ.cells.length) (b : ∀ (i : Nat) u, S1[i]? = some u → bdO μ.cells.length u = true)
    (hm : μ.cells.length ≤ m) (hp : μ2.cells[m]? = some p) (ho : (S1 ++ T)[m]? = some o) (hb : bdO μ.cells.length o = true) : Step μ H (μ.add p) H2 ∧ MR Γ (μ.add p) (S1 ++ [o]) H2 := by
  have np : p ∉ μ := m2.newAt st.isCut hl hm hp
  have in2 : p ∈ μ2 := .inl (List.mem_of_getElem? hp)
  obtain ⟨ν, ep⟩ := st.pre
  have cn : CutN μ.cells.length μ2 (μ.add p) := ⟨fun i hi => by
    show (μ.cells ++ [p])[i]? = _
    rw [ep, List.getElem?_append_left hi, List.getElem?_append_left hi], fun q nq z => by
    rcases z with z | z
    · rcases List.mem_append.mp z with z | z
      · exact st.isCut.not nq (.inl z)
      · rw [List.mem_singleton.mp z] at nq
        exact nq in2
    · exact st.isCut.not nq (.inr z)⟩
  have ob : OR Γ (μ.add p) H2 o p := (m2.ob m o p ho hp).cutN cn hb
  have sn : ∀ {q : Addr} {u : HO}, H q = some u → q ∉ μ → q ≠ p := fun hq nq z => (st.kp _ _ hq nq).1 (by rw [z]; exact in2)
  have sc : ∀ q, q ∉ μ → q ≠ p → q ∉ μ.add p := fun q nq ne z => by
    rcases z with z | z
    · rcases List.mem_append.mp z with z | z
      · exact nq (.inl z)
      · exact ne (List.mem_singleton.mp z)
    · exact nq (.inr z)
  refine ⟨⟨⟨[p], rfl⟩, rfl, fun q u hq nq => ⟨sc q nq (sn hq nq), (st.kp q u hq nq).2⟩, st.hkeep⟩, ?_, ?_, fun i u q hi hq => ?_, fun q hq => ?_⟩
  · show (μ.cells ++ [p]).length = (S1 ++ [o]).length
    rw [List.length_append, List.length_append, hl]
    rfl
  · show (μ.cells ++ [p]).Nodup
    have nd := m2.nd
    rw [ep] at nd
    refine List.nodup_append.mpr ⟨(List.nodup_append.mp nd).1, by simp, fun a ha c hc e => ?_⟩
    rw [List.mem_singleton] at hc
    subst hc e
    exact np (.inl ha)
  · have hq : (μ.cells ++ [p])[i]? = some q := hq
    by_cases hlt : i < S1.length
    · rw [List.getElem?_append_left hlt] at hi
      rw [List.getElem?_append_left (by omega)] at hq
      have h2 : μ2.cells[i]? = some q := by rw [ep, List.getElem?_append_left (by omega)]; exact hq
      exact (m2.ob i u q (by rw [List.getElem?_append_left hlt]; exact hi) h2).cutN cn (b i u hi)
    · have e1 : i = S1.length := by
        have := (List.getElem?_eq_some_iff.mp hi).1
        simp at this
        omega
      subst e1
      rw [List.getElem?_append_right (Nat.le_refl _)] at hi
      rw [hl, List.getElem?_append_right (Nat.le_refl _)] at hq
      simp at hi hq
      subst hi hq
      exact ob
  · obtain ⟨a, c⟩ := m2.hd q (by rw [st.hid]; exact hq)
    refine ⟨a, fun z => ?_⟩
    rcases List.mem_append.mp z with z | z
    · exact c (by rw [ep]; exact List.mem_append_left _ z)
    · exact c (by rw [List.mem_singleton.mp z]; exact List.mem_of_getElem? hp)
def eKeep (f : F1) : F1 := fun σ S => keepC S (f σ S)
/-- THE RULE -/
theorem s_keep (he : SE Γ X W e f) : SE Γ X W e (eKeep f) := by
  refine PE.imp he fun σ' H Q h => ?_
  obtain ⟨μ, σ, S, a, h⟩ := h
  refine ⟨μ, σ, S, a, ?_⟩
  have h : (Ev.keepC S (f σ S)).Sat (KD Γ μ H Q) (KE Γ W X.N.length μ H) := h
  unfold Ev.keepC at h
  split at h
  · rename_i m S2 er
    rw [er]
    split at h
    · rename_i hc
      obtain ⟨hm, hl, hb⟩ := hc
      split at h
      · rename_i o eo
        split at h
        · rename_i ho
          intro μ2 v H2 st m2 rv
          obtain ⟨p, rfl, hp, oo⟩ := cell_at m2 rv eo
          have e2 : S2 = S2.take S.length ++ S2.drop S.length := (List.take_append_drop _ _).symm
          have hl' : (S2.take S.length).length = μ.cells.length := by rw [List.length_take, a.mr.len]; omega
          obtain ⟨s3, m3⟩ := MR.keepC (o := o) (S1 := S2.take S.length) (T := S2.drop S.length) st (by rw [← e2]; exact m2) hl' (fun i u hi => by rw [a.mr.len]; exact List.all_eq_true.mp hb u (List.mem_of_getElem? hi)) (by rw [a.mr.len]; exact hm) hp (by rw [← e2]; exact eo) (by rw [a.mr.len]; exact ho)
          refine h (μ.add p) _ H2 s3 m3 (.loc ?_)
          show (μ.cells ++ [p])[S.length]? = some p
          rw [← a.mr.len, List.getElem?_append_right (Nat.le_refl _)]
          simp
        · exact h.elim
      · exact h.elim
    · exact h.elim
  · exact h.elim
end
/-! ### list + list, a cell -/
def opAddM : Op2 := fun x y S => match seqL x S, seqL y S with
  | some xs, some ys => if xs.length + ys.length ≤ line then .ok (.loc S.length) (S ++ [.lst (xs ++ ys)]) else .no
  | _, _ => .no
theorem ok_addM {Γ : Nat → Addr} {W : WX} {X : Cx} : OkOp Γ X W (binaryOp .Add) opAddM := by
  intro pins s σ' H x' y' v u Q μ x y S I rx ry vx vy m sat
  unfold opAddM at sat
  split at sat
  · rename_i xs ys ex ey
    split at sat
    · rename_i z
      obtain ⟨a, vs, rfl, ha, ra⟩ := seqL_at m vx ex
      obtain ⟨b, ws, rfl, hb, rb⟩ := seqL_at m vy ey
      exact op_cat pins s σ' H _ _ v u Q I rx ry ⟨a, b, vs, ws, rfl, rfl, ha, hb, by rw [← ra.length, ← rb.length]; exact line_le z, fun p hp => KD.newC sat m (ra.append rb) hp⟩
    · exact sat.elim
  · exact sat.elim
end Ev
namespace Ev
open PySem PySem.Spec PyProof.Rows L2
section
variable {Γ : Nat → Addr} {W : WX} {X : Cx} {elt tg iter : Expr} {ifs : List Expr} {scope : Scope} {own : List (Str × Nat)} {pos spos py : Pos} {fi : FI} {p : Pat} {ft : FT} {fe : F1} {i : Nat} {y : Str}
/-- the reading of a comprehension from what it makes -/
theorem lc_rd {K : PySem.W.Frag} {k : Nat} {vs : List Nat} {σ' : L2.St} {H : Hp} {Q : VK} (hp : ∀ j ∈ p.slots, j ∈ vs) (h : TEv Γ W k (eLc fi p ft fe vs) σ' H Q) : tLc (TIv Γ W k fi) (gPat K p) (TTv Γ W0 k ft) (TEv Γ W0 k fe) vs σ' H Q := by
  obtain ⟨μ, σ, S, a, h⟩ := h
  refine ⟨μ, σ, S, a, h.of_bind.mono (fun items S1 h1 => ?_) fun _ _ z => z⟩
  intro μ1 H1 J s1 m1 iw D0 hD
  split at h1
  · rename_i hl
    cases e : lcG (lcTurn p ft fe (wipeD σ vs)) items S1 with
    | ex _ _ => rw [e] at h1; exact h1.elim
    | no => rw [e] at h1; exact h1.elim
    | ok ys S2 =>
      rw [e] at h1
      refine lc_run K hp (a.mono s1 m1) iw hD hl e fun μ' H' acc s' m' n' e' r' => ?_
      exact h1 μ' _ H' (s1.trans s') m'.show (.lst n' e' (r'.seen Seen.unhide))
  · exact h1.elim
/-- name = [..] -/
theorem s_setLc (hc : X.calm = true) (hN : X.N.Nodup) (hy : X.N[i]? = some y) (hyl : X.env.scope.names.lookup y = some .local) (hi : SI Γ X W tg iter fi) (ok : BlkOk X.N X.env.scope scope own) (hp : ∀ j ∈ p.slots, j ∈ own.map (·.2))
    (hg : ∀ (s : Shared) (H : Hp) (C : Addr) (cl : List (Str × Addr)) (fp : List Addr), PG (X.blk s H scope (compEnvC scope cl C X.env) fp) tg (gPat X.K p))
    (ht : ∀ (s : Shared) (H : Hp) (C : Addr) (cl : List (Str × Addr)) (fp : List Addr), STs Γ (X.blk s H scope (compEnvC scope cl C X.env) fp) W0 ifs ft)
    (he : ∀ (s : Shared) (H : Hp) (C : Addr) (cl : List (Str × Addr)) (fp : List Addr), SE Γ (X.blk s H scope (compEnvC scope cl C X.env) fp) W0 elt fe) (hk : X.env.scope.kind = .function := by rfl) (hl : (py.line == pos.line) = true := by rfl)
    (hn : (scope.names.any fun (n, k) => n == y && (k == .local || k == .cell)) = false := by rfl) (hs : ∀ x, foldedSetIterable iter X.env x = pure x := by intro _; rfl) :
    SS Γ X W (.Assign [.Name y py] (.ListComp elt [⟨tg, iter, ifs, 0⟩] scope pos) spos) (sAsg (eLc fi p ft fe (own.map (·.2))) (gSlot i)) := by
  refine PS.imp (ps_setLc (tt := TTv Γ W0 X.N.length ft) (te := TEv Γ W0 X.N.length fe) hc hN hy hyl (sw_true hk hyl hl hn) hi ok hg (fun s H C cl fp => ht s H C cl fp) (fun s H C cl fp => he s H C cl fp) hs) fun E σ' H q => ?_
  obtain ⟨μ, σ, S, a, q⟩ := q
  refine lc_rd (K := X.K) hp ⟨μ, σ, S, a, q.of_bind.mono (fun d S1 h1 => ?_) fun _ _ z => z⟩
  intro μ1 v1 H1 st m1 r1
  exact KS.here (KS.mono st h1) ((a.mono st m1).set r1)
end
/-! ### {} -/
def eDNew : F1 := fun _ S => .ok (.dk []) S
def eDNewM : F1 := fun _ S => .ok (.loc S.length) (S ++ [.dk []])
section
variable {Γ : Nat → Addr} {W : WX} {X : Cx} {pos : Pos}
theorem s_dnew : SE Γ X W (.Dict [] [] pos) eDNew := by
  refine PE.imp pe_dnewK fun σ' H Q h => ?_
  obtain ⟨μ, σ, S, a, h⟩ := h
  exact fun p hp => KD.newD h a.mr .nil hp
theorem s_dnewM : SE Γ X W (.Dict [] [] pos) eDNewM := by
  refine PE.imp pe_dnewK fun σ' H Q h => ?_
  obtain ⟨μ, σ, S, a, h⟩ := h
  intro p hp
  have h : KD Γ μ H Q (.loc S.length) (S ++ [.dk []]) := h
  refine h (μ.add p) _ _ (Step.cell hp) (a.mr.cell hp (.dk upd_same .nil)) (.loc ?_)
  show (μ.cells ++ [p])[S.length]? = some p
  rw [← a.mr.len, List.getElem?_append_right (Nat.le_refl _)]
  simp
end
/-! ### for x, y in .. within a comprehension -/
section
variable {X : Cx} {pos px py pz : Pos} {x y z : Str} {i j l k : Nat}
theorem pg_pat2 (hc : X.calm = true) (hN : X.N.Nodup) (hi : X.N[i]? = some x) (hj : X.N[j]? = some y) (hx : Loc X.env.scope x) (hy : Loc X.env.scope y) (fx : X.fn x = true ∨ X.env.scope.names.lookup x = some .local := by first | exact .inl rfl | exact .inr rfl | assumption) (fy : X.fn y = true ∨ X.env.scope.names.lookup y = some .local := by first | exact .inl rfl | exact .inr rfl | assumption)
    (hn : (assignEach [.Name x px, .Name y py] X.env).length = 2 := by rfl) (hst : (assignEach [.Name x px, .Name y py] X.env).findIdx? (·.1) = none := by rfl) : PG X (.Tuple [.Name x px, .Name y py] k pos) (gPat X.K (.tup [i, j])) := by
  refine ⟨fun pins s σ H v u Q I r h => ?_⟩
  obtain ⟨a, xs, rfl, hq, hl, q⟩ := h
  refine (pg_tup (n := 2) hc (pgs_cons (pg_name hN hi hx fx) (pgs_cons (pg_name hN hj hy fy) pgs_nil)) hn hst).run pins s σ H _ u Q I r ⟨a, xs, rfl, hq, hl, ?_⟩
  match xs, hl, q with
  | [p, w], _, q => exact ⟨p, [w], rfl, w, [], rfl, rfl, q⟩
theorem pg_pat3 (hc : X.calm = true) (hN : X.N.Nodup) (hi : X.N[i]? = some x) (hj : X.N[j]? = some y) (hl : X.N[l]? = some z) (hx : Loc X.env.scope x) (hy : Loc X.env.scope y) (hz : Loc X.env.scope z) (fx : X.fn x = true ∨ X.env.scope.names.lookup x = some .local := by first | exact .inl rfl | exact .inr rfl | assumption) (fy : X.fn y = true ∨ X.env.scope.names.lookup y = some .local := by first | exact .inl rfl | exact .inr rfl | assumption) (fz : X.fn z = true ∨ X.env.scope.names.lookup z = some .local := by first | exact .inl rfl | exact .inr rfl | assumption)
    (hn : (assignEach [.Name x px, .Name y py, .Name z pz] X.env).length = 3 := by rfl) (hst : (assignEach [.Name x px, .Name y py, .Name z pz] X.env).findIdx? (·.1) = none := by rfl) : PG X (.Tuple [.Name x px, .Name y py, .Name z pz] k pos) (gPat X.K (.tup [i, j, l])) := by
  refine ⟨fun pins s σ H v u Q I r h => ?_⟩
  obtain ⟨a, xs, rfl, hq, hl', q⟩ := h
  refine (pg_tup (n := 3) hc (pgs_cons (pg_name hN hi hx fx) (pgs_cons (pg_name hN hj hy fy) (pgs_cons (pg_name hN hl hz fz) pgs_nil))) hn hst).run pins s σ H _ u Q I r ⟨a, xs, rfl, hq, hl', ?_⟩
  match xs, hl', q with
  | [p, w, o], _, q => exact ⟨p, [w, o], rfl, w, [o], rfl, o, [], rfl, rfl, q⟩
end
/-! ### len of a dict -/
def opLenDk : OpC := fun ds S => match ds with
  | [d] => match dictK d S with
    | some kvs => .ok (.int (kvs.length : Nat)) S
    | none => .no
  | _ => .no
section
variable {Γ : Nat → Addr} {W : WX} {X : Cx}
def rLenRd : List V → Hp → VK → Prop := fun xs H Q => ∃ (a : Addr) (kvs : List (Key × V)), xs = [V.ref a] ∧ Rd H a (.dK kvs) ∧ Q (.int (kvs.length : Nat)) H
theorem call_lenRd : CallR X (.builtin "len") rLenRd := by
  rintro pins s σ H xs us Q I r ⟨a, kvs, rfl, ha, q⟩
  obtain ⟨u, rfl, ru⟩ := vals1 r
  cases ru
  exact d_len I ha fun t s' I' => ⟨.int (kvs.length : Nat), H, I', ⟨t, rfl⟩, q⟩
theorem rd_lenDk : RdC Γ W rLenRd opLenDk := by
  intro H Q vs μ ds S n rv m sat
  unfold opLenDk at sat
  split at sat
  · obtain ⟨v, rfl, r⟩ := rv.one
    split at sat
    · rename_i kvs ek
      obtain ⟨q, ws, rfl, rd, rs⟩ := dictK_at m r ek
      exact ⟨q, ws, rfl, rd, by rw [← rs.length]; exact KD.here sat m (.int _)⟩
    · exact sat.elim
  · exact sat.elim
end
end Ev
namespace Ev
open PySem PySem.Spec PyProof.Rows L2
/-! ### enumerate(a tuple) -/
section
theorem meets_enum1 {v : Value} {o : Obj} {H : Heap → Prop} (B : Begins v o H) :
    Meets (Builtin.«enumerate.__new__» ⟨[.type "enumerate", v], []⟩) (fun _ R s => H s.heap ∧
      R (.ok (.ret (.ref (s.heap.push o).objs.size))) { s with heap := (s.heap.push o).push { cls := .type "enumerate", data := .fields #[.none, .bool false, .ref s.heap.objs.size, rawInt 0, .none, .none] } }) :=
  .of_wp fun prog w A R s h => by
    obtain ⟨hp, g, d, tk, os⟩ := s; obtain ⟨h1, h⟩ := h
    have hsub := sub_enumerate
    have q1 : ∀ {A' : Around} {E : Value → Shared → Prop} {Q : Value → Shared → Prop}, Q (.ref hp.objs.size) ⟨hp.push o, g, d, tk, os⟩ → wpAny (model prog w) A' (pyIter v) Q E ⟨hp, g, d, tk, os⟩ :=
      fun q => B.iter prog w _ _ ⟨hp, g, d, tk, os⟩ _ h1 q
    wp_walk using q1
    refine wpAny_stack_any fun st => wpAny_pure ?_
    split
    · rename_i c _ _ _ _ _
      cases (c == Value.type "enumerate")
      · wp_walk using q1
        exact ⟨_, rfl, h⟩
      · wp_walk using q1
        exact ⟨_, rfl, h⟩
    · wp_walk using q1
      exact ⟨_, rfl, h⟩
theorem call_enum1 {prog : Program} {w : World} {A : Around} {E : Value → Shared → Prop} {s : Shared} {v : Value} {o : Obj} {H : Heap → Prop} {Q : Value → Shared → Prop} (B : Begins v o H) (h1 : H s.heap)
    (h : ∀ h', IsEnum h' (s.heap.objs.size + 1) s.heap.objs.size 0 .none → h'.get? s.heap.objs.size = some o → h'.objs.size = s.heap.objs.size + 2 →
      (∀ b o, s.heap.get? b = some o → h'.get? b = some o) → Q (.ref (s.heap.objs.size + 1)) { s with heap := h' }) :
    wpAny (model prog w) A (call (.type "enumerate") [v]) Q E s := by
  refine callType_new F.called_enumerate (by decide) (F.typeCall_enumerate_1 _) (F.newCall_enumerate_1 _) (fun obj => F.args_object_init_2 obj _) F.entry_enumerate_new
    (meets_enum1 B) ⟨h1, ?_⟩
  have hz : (s.heap.push o).objs.size = s.heap.objs.size + 1 := Heap.size_push ..
  show _ ∧ _
  rw [hz]
  have he : IsEnum ((s.heap.push o).push { cls := .type "enumerate", data := .fields #[.none, .bool false, .ref s.heap.objs.size, rawInt 0, .none, .none] }) (s.heap.objs.size + 1) s.heap.objs.size 0 .none := by
    have := Heap.get?_push_size (s.heap.push o) (o := { cls := .type "enumerate", data := .fields #[.none, .bool false, .ref s.heap.objs.size, rawInt 0, .none, .none] }) rfl
    rw [hz] at this; exact this
  refine ⟨⟨_, he, rfl⟩, h _ he (Heap.get?_push_of_some _ (Heap.get?_push_size _ B.free)) (by rw [Heap.size_push, hz]) fun b o x => Heap.get?_push_of_some _ (Heap.get?_push_of_some _ x)⟩
def IteT (K : PySem.W.Frag) (a : Addr) : It :=
  ⟨fun i H => ∃ (xs : List V) (x : V), SqT K H a xs ∧ xs[i]? = some x, fun i H v H' => ∃ T x, v = .ref T ∧ H T = none ∧ H' = upd H T (.tup [.int (i : Nat), x]) ∧ ∀ xs, SqT K H a xs → xs[i]? = some x, fun i H => ∃ xs : List V, SqT K H a xs ∧ xs.length ≤ i⟩
theorem turn_enumT {P : Program} {w : World} {K : PySem.W.Frag} {elts : List Expr} {kk : Nat} {tpos : Pos} (a e it : Addr) (hat : a ≠ it) (hae : a ≠ e) :
    Turn P w K (.Tuple elts kk tpos) (IteT K a) [e, it] e (fun i h => (∃ old, IsEnum h e it ((i : Nat) : Int) old) ∧ h.IsTupleIter it a i ∧ e ≠ it) where
  mem := by simp
  obj := fun i h st b hb => by
    obtain ⟨⟨old, he⟩, ⟨o, ho, hc, hd⟩, _⟩ := st
    have e' : b = e ∨ b = it := by simpa using hb
    rcases e' with z | z
    · rw [z]; exact ⟨_, he, fun v q => nomatch q⟩
    · rw [z]; exact ⟨o, ho, fun v q => by rw [hd] at q; cases q⟩
  keep := fun i h h' st k => let ⟨⟨old, he⟩, hi, hne⟩ := st; ⟨⟨old, k e (by simp) _ he⟩, hi.at fun o q => k it (by simp) o q, hne⟩
  item := by
    intro X hP hw hK hc i pins s σ H E I hf st hg
    subst hP hw hK
    obtain ⟨⟨old, he⟩, hit, hne⟩ := st
    obtain ⟨xs, x, hq, hx⟩ := hg
    obtain ⟨its, rv, p, hz⟩ := I.tuple hq
    obtain ⟨u, hu, ru⟩ := rv.get hx
    have hel : e < s.heap.objs.size := Heap.lt_size he
    have hil : it < s.heap.objs.size := by obtain ⟨_, q, _⟩ := hit; exact Heap.lt_size q
    have pT : s.heap.IsTuple a its.toArray := p
    have hlen : i < its.toArray.size := by
      have := (List.getElem?_eq_some_iff.mp hu).1
      simpa using this
    have hef : e ∉ [it, a] := by
      simp only [List.mem_cons, List.mem_nil_iff, or_false]
      intro z
      rcases z with z | z
      · exact hne z
      · exact hae z.symm
    refine wpAny_pyNext_enum_itemD (Draws.tuple (prog := X.prog) (w := X.w) (A := X.A.in1) (I.ok.hd hc) it a hat its.toArray) he ⟨hit, pT⟩ hlen hne hef fun x' h' tk hP ho hst hT hsz hk => ?_
    obtain ⟨hit', _⟩ := hst
    have ex : x' = u := by
      rw [List.getElem?_toArray, hu] at hP
      exact (Option.some.inj hP).symm
    subst ex
    refine ⟨_, rfl, wpAny_letOwnedTupleGo_enum (s := { s with heap := h', toks := tk + 1 }) ho fun h'' he' sb => ?_⟩
    have hT2 : h''.get? s.heap.objs.size = some { cls := .type "tuple", data := .seq #[.int i tk, x'] } := (sb.2 _ (Nat.ne_of_gt hel)).trans hT
    have new : ObjOk X.prog X.w (upd H s.heap.objs.size (.tup [.int (i : Nat), x])) h'' s.heap.objs.size (.tup [.int (i : Nat), x]) :=
      ⟨by show 2 ≤ sizeLine; decide, [.int i tk, x'], .cons ⟨_, rfl⟩ (.cons ru .nil), ⟨_, hT2, rfl, _, rfl⟩⟩
    have I1 : Inv X pins σ (upd H s.heap.objs.size (.tup [.int (i : Nat), x])) { s with heap := h'', toks := tk + 1 } :=
      I.turnedNew (ch := [e, it]) (fun b ob hb q => (sb.2 b (fun z => hb (by simp [z]))).trans (hk b ob (fun z => hb (by simp [z])) (fun z => hb (by simp [z])) q)) hf (Nat.le_refl _) new
    refine ⟨.ref s.heap.objs.size, _, I1, rfl, ⟨_, x, rfl, I.hok.fresh (Nat.le_refl _), rfl, fun ys hy => by rw [I.tuple_inj hy hq]; exact hx⟩, ⟨⟨x', ?_⟩, hit'.at fun o q => (sb.2 it (Ne.symm hne)).trans q, hne⟩, fun b hb => ?_⟩
    · have e1 : ((i + 1 : Nat) : Int) = (i : Int) + 1 := by omega
      rw [e1]; exact he'
    · have hb' : b < s.heap.objs.size := by
        have e' : b = e ∨ b = it := by simpa using hb
        rcases e' with z | z
        · rw [z]; exact hel
        · rw [z]; exact hil
      rw [upd_ne (Nat.ne_of_lt hb')]
      exact (hf b hb).1
  done := by
    intro X hP hw hK hc i pins s σ H E I hf st hg
    subst hP hw hK
    obtain ⟨⟨old, he⟩, hit, hne⟩ := st
    obtain ⟨xs, hq, hx⟩ := hg
    obtain ⟨its, rv, p, hz⟩ := I.tuple hq
    obtain ⟨f0, f1, f2, f3, f4, f5⟩ := hf it (by simp)
    have hl := rv.length
    have hT : s.TypeIs (.ref e) "enumerate" := ⟨_, he, rfl⟩
    have pT : s.heap.IsTuple a its.toArray := p
    unfold pyNext
    refine wpAny_bind (wpAny_attempt (wpAny_callSpecial?_slot (name := Str.ofString "__next__") hT F.slot_enumerate_next
      (wpAny_call_entry F.slot_enumerate_next hT F.entry_enumerate_next ?_ (F.args_enumerate_next_1 _))))
    show wpAny _ _ (field (.ref e) 2 >>= _) _ _ _
    refine wpAny_bind (wpAny_field he rfl (x := .ref it) rfl ?_)
    refine wpAny_bind (wpAny_nextOf_tuple_end (I.ok.hd hc) hit pT (by simp; omega) fun h' x he' hx' => ?_)
    obtain ⟨o, ho, hc⟩ := hx'
    refine wpAny_bind (wpAny_isInstance (T := "StopIteration") (b := true) ⟨o, ho, hc⟩ isSubtype_stop ?_)
    exact wpAny_pure ⟨rfl, I.turned (t' := s.toks) (fun b o hb q => he' b o hb q) f0 f1 f3 f4 f5⟩
  self := fun A i s Q E st h => let ⟨⟨_, he⟩, _⟩ := st; wpAny_pyIter_enum he h
def rEnumT (K : PySem.W.Frag) (ta : TA) : TI := fun σ H R => ta σ H fun vs H1 => ∃ a xs, vs = [.ref a] ∧ SqT K H1 a xs ∧ R (IteT K a) H1
theorem pi_enumT {X : Cx} {e : Expr} {ta : TA} {p pos tpos : Pos} {elts : List Expr} {kk : Nat} (hg : Gl X "enumerate") (hm : X.mg "enumerate" = none) (ha : PA X [e] ta) (hs : starEach [e] X.env = [(false, eval e X.env)] := by rfl) :
    PI X (.Tuple elts kk tpos) (.Call (.Name "enumerate" p) [e] [] pos) (rEnumT X.K ta) := by
  refine ⟨fun pins s σ H R I h => ?_⟩
  refine Call_ (ld_blt I hg hm boot_enumerate (PyProof.Rows.callWith_type1 (thn (ha.run pos pins s σ H _ I h) fun us s1 ⟨vs, H1, I1, r1, q1⟩ => ?_) hs rfl))
  obtain ⟨a, xs, ex, hq, q⟩ := q1
  subst ex
  cases r1 with
  | cons r rr =>
    cases rr
    cases r
    obtain ⟨its, rv, p', hz⟩ := I1.tuple hq
    have pT : s1.heap.IsTuple a its.toArray := p'
    have hlt : a < s1.heap.objs.size := by obtain ⟨o, ho, _⟩ := pT; exact Heap.lt_size ho
    refine call_enum1 (begins_tuple a its.toArray) pT fun h' he hit hsz hk => wpAny_pyIter_enum he ?_
    have I2 : Inv X pins σ H1 { s1 with heap := h' } := I1.kept (t' := s1.toks) hk
    refine ⟨s1.heap.objs.size + 1, [s1.heap.objs.size + 1, s1.heap.objs.size], _, _, H1, rfl, I2, turn_enumT a (s1.heap.objs.size + 1) s1.heap.objs.size (Nat.ne_of_lt hlt) (Nat.ne_of_lt (Nat.lt_succ_of_lt hlt)), ⟨⟨.none, he⟩, ⟨_, hit, rfl, rfl⟩, Nat.succ_ne_self _⟩, fun b hb => ?_, q⟩
    have e' : b = s1.heap.objs.size + 1 ∨ b = s1.heap.objs.size := by simpa using hb
    have hle : s1.heap.objs.size ≤ b := by
      rcases e' with z | z
      · rw [z]; exact Nat.le_add_right _ _
      · rw [z]; exact Nat.le_refl _
    exact I1.fpOk hle (I1.hok.fresh hle)
theorem walk_enumT {K : PySem.W.Frag} {a : Addr} {xs : List V} : Walk (IteT K a) xs.length (fun H => SqT K H a xs) (YPair (fun i => some (.int (i : Nat))) (fun i => xs[i]?)) := by
  refine ⟨fun i _ hi q => ⟨xs, xs[i], q, by simp [hi]⟩, fun _ q => ⟨xs, q, Nat.le_refl _⟩, fun i H v H' _ q y => ?_⟩
  obtain ⟨T, x, h1, h2, h3, h4⟩ := y
  exact ⟨T, .int (i : Nat), x, h1, h2, h3, rfl, h4 xs q⟩
def iEnumT (g : FA) : FI := fun σ S => (g σ S).bind fun ds S1 => match ds with
  | [.tup xs] => .ok (enumD 0 xs) S1
  | _ => .no
/-- a list or a tuple -/
def iEnumA (g : FA) : FI := fun σ S => (g σ S).bind fun ds S1 => match ds with
  | [.tup xs] => .ok (enumD 0 xs) S1
  | [d] => match itl d with
    | some xs => .ok (enumD 0 xs) S1
    | none => .no
  | _ => .no
section
variable {Γ : Nat → Addr} {W : WX} {X : Cx} {e : Expr} {g : FA} {p pos : Pos}
theorem i_enumT {kk : Nat} {tpos : Pos} {elts : List Expr} (hg : Gl X "enumerate") (hm : X.mg "enumerate" = none) (ha : SA Γ X W [e] g) (hs : starEach [e] X.env = [(false, eval e X.env)] := by rfl) : SI Γ X W (.Tuple elts kk tpos) (.Call (.Name "enumerate" p) [e] [] pos) (iEnumT g) := by
  refine PI.imp (pi_enumT hg hm ha hs) fun σ' H R h => ?_
  obtain ⟨μ, σ, S, a, h⟩ := h
  refine tav_of a h.of_bind fun ds S1 μ1 vs H1 h1 s1 a1 r1 => ?_
  split at h1
  · obtain ⟨v, rfl, r⟩ := r1.one
    cases r with
    | tup n eh rs =>
      refine ⟨_, _, rfl, .inl (.inl eh), h1 μ1 H1 _ s1 a1.mr (iw_pair (by rw [enumD_len, rs.length]) walk_enumT (fun μ2 H2 s2 => .inl (.inl (s2.keep _ _ eh n).2)) fun i μ2 H2 x y s2 ex ey => ?_)⟩
      cases ex
      obtain ⟨d, ed, rd⟩ := rs.at_back ey
      exact ⟨.int (i : Nat), d, by rw [enumD_at, ed]; simp, .int _, rd.seen s2⟩
  · exact h1.elim
theorem i_enumA {kk : Nat} {tpos : Pos} {elts : List Expr} (hg : Gl X "enumerate") (hm : X.mg "enumerate" = none) (ha : SA Γ X W [e] g) (hs : starEach [e] X.env = [(false, eval e X.env)] := by rfl) : SI Γ X W (.Tuple elts kk tpos) (.Call (.Name "enumerate" p) [e] [] pos) (iEnumA g) := by
  refine i_alt (i_enumT hg hm ha hs) (i_enum hg hm ha hs) fun σ S => ?_
  unfold iEnumA iEnumT iEnum
  cases g σ S with
  | ex _ _ => exact .inl rfl
  | no => exact .inl rfl
  | ok ds S1 =>
    cases ds with
    | nil => exact .inl rfl
    | cons d r =>
      cases r with
      | cons _ _ => exact .inl (by cases d <;> rfl)
      | nil => cases d <;> first | exact .inl rfl | exact .inr (.inl rfl)
end
end
end Ev
namespace Ev
open PySem PySem.Spec PyProof.Rows L2
/-! ### what leaves the store as it was -/
theorem bind_ok {α β : Type} {r : Res α} {f : α → Sto → Res β} {b : β} {S' : Sto} (h : r.bind f = .ok b S') : ∃ a S1, r = .ok a S1 ∧ f a S1 = .ok b S' := by
  cases r with
  | ok a S1 => exact ⟨a, S1, rfl, h⟩
  | ex x S1 => cases h
  | no => cases h
def QtF (f : F1) : Prop := ∀ σ S d S', f σ S = .ok d S' → S' = S
def QtA (f : FA) : Prop := ∀ σ S d S', f σ S = .ok d S' → S' = S
def QtS (f : FS) : Prop := ∀ σ S d S', f σ S = .ok d S' → S' = S
def QtD (f : Fd) : Prop := ∀ ds S d S', f ds S = .ok d S' → S' = S
def Qt2 (f : Op2) : Prop := ∀ x y S d S', f x y S = .ok d S' → S' = S
def Qt1 (f : Op1) : Prop := ∀ x S d S', f x S = .ok d S' → S' = S
theorem qt_var {i : Nat} : QtF (eVar i) := by
  intro σ S d S' h
  unfold eVar at h
  split at h <;> cases h
  rfl
theorem qt_c {c : D} : QtF (eC c) := by
  intro σ S d S' h
  cases h
  rfl
theorem qa_nil : QtA aNil := by
  intro σ S d S' h
  cases h
  rfl
theorem qa_cons {f : F1} {g : FA} (a : QtF f) (b : QtA g) : QtA (aCons f g) := by
  intro σ S d S' h
  obtain ⟨x, S1, e1, h⟩ := bind_ok h
  obtain ⟨y, S2, e2, h⟩ := bind_ok h
  cases h
  rw [b _ _ _ _ e2, a _ _ _ _ e1]
theorem qt_call {op : OpC} {g : FA} (a : QtD op) (b : QtA g) : QtF (eCall op g) := by
  intro σ S d S' h
  obtain ⟨x, S1, e1, h⟩ := bind_ok h
  rw [a _ _ _ _ h, b _ _ _ _ e1]
theorem qt_un {op : Op1} {f : F1} (a : Qt1 op) (b : QtF f) : QtF (eUn op f) := by
  intro σ S d S' h
  obtain ⟨x, S1, e1, h⟩ := bind_ok h
  rw [a _ _ _ _ h, b _ _ _ _ e1]
theorem qt_bin {op : Op2} {f g : F1} (a : Qt2 op) (b : QtF f) (c : QtF g) : QtF (eBin op f g) := by
  intro σ S d S' h
  obtain ⟨x, S1, e1, h⟩ := bind_ok h
  obtain ⟨y, S2, e2, h⟩ := bind_ok h
  rw [a _ _ _ _ _ h, c _ _ _ _ e2, b _ _ _ _ e1]
theorem qt_and {f g : F1} (a : QtF f) (b : QtF g) : QtF (eAnd f g) := by
  intro σ S d S' h
  obtain ⟨x, S1, e1, h2⟩ := bind_ok h
  clear h
  have e := a _ _ _ _ e1
  subst e
  split at h2
  · exact b _ _ _ _ h2
  · cases h2
    rfl
  · cases h2
theorem qs_ret {f : F1} (a : QtF f) : QtS (sRet f) := by
  intro σ S d S' h
  obtain ⟨x, S1, e1, h⟩ := bind_ok h
  cases h
  exact a _ _ _ _ e1
theorem qd_run {n m : Nat} {g : FS} (a : QtS g) : QtD (runB n m g) := by
  intro ds S d S' h
  unfold runB at h
  split at h
  · obtain ⟨o, S1, e1, h2⟩ := bind_ok h
    clear h
    have e := a _ _ _ _ e1
    subst e
    cases o <;> cases h2 <;> rfl
  · cases h
theorem q2_eq : Qt2 opEq := by
  intro x y S d S' h
  unfold opEq at h
  split at h <;> cases h
  rfl
theorem q1_fld {c : Nat} {x : Str} : Qt1 (opFld c x) := by
  intro d S r S' h
  unfold opFld at h
  split at h
  · split at h
    · split at h <;> cases h
      rfl
    · cases h
  · cases h
theorem qd_isi {own : Nat → Bool} {kt : D → D → Option Bool} : QtD (opIsi own kt) := by
  intro d S r S' h
  unfold opIsi at h
  split at h
  · split at h
    · split at h
      · split at h <;> cases h
        rfl
      · cases h
    · cases h
  · split at h
    · split at h
      · split at h <;> cases h
        rfl
      · cases h
    · cases h
  · cases h
/-- an own == by a def that leaves the store -/
def eqOf (F : Fd) : EqD := fun x y S => match F [x, y] S with
  | .ok (.bl b) _ => some b
  | _ => none
def fe1 (c0 : Nat) (F : Fd) : Nat → Option EqD := fun c => if c = c0 then some (eqOf F) else none
theorem eqOwn_one {Γ : Nat → Addr} {X : Cx} {k c0 : Nat} {fa : Addr} {F : Fd} (hf : PySem.W.findIn X.K (.ref (Γ c0)) "__eq__" = some (some (.ref fa))) (hi : PySem.W.isFn X.K (.ref fa) = true) (G : FnF Γ X.prog X.w X.K X.mg X.base k fa F) (q : QtD F) : EqOwn Γ X k (fe1 c0 F) := by
  intro c g h
  unfold fe1 at h
  split at h
  · rename_i e
    subst e
    cases h
    refine ⟨fa, F, hf, hi, G, fun x y S b h => ?_⟩
    unfold eqOf at h
    split at h
    · rename_i b' S' e
      cases h
      have e2 := q _ _ _ _ e
      subst e2
      exact ⟨[], by rw [List.append_nil]; exact e⟩
    · cases h
  · cases h
/-! ### while -/
def whileG (t : FT) (b : FS) : Nat → FS
  | 0 => fun _ _ => .no
  | n + 1 => fun σ S => (t σ S).bind fun c S1 => if c = true then (b σ S1).bind fun o S2 => match o with
      | .nx σ1 => whileG t b n σ1 S2
      | .ct σ1 => whileG t b n σ1 S2
      | .bk σ1 => .ok (.nx σ1) S2
      | .rt d => .ok (.rt d) S2
    else .ok (.nx σ) S1
section
variable {Γ : Nat → Addr} {W : WX} {X : Cx} {pos : Pos} {c : Expr} {body : List Stmt} {t : FT} {b : FS}
theorem s_while {n : Nat} (hp : PassesOwn (model X.prog X.w) X.A X.env X.xe) (hc : ST Γ X W c t) (hb : SB Γ X W body b) : SS Γ X W (.While c body [] pos) (whileG t b n) := by
  refine PS.imp (ps_while hp hc hb) fun E σ' H q => ?_
  obtain ⟨μ, σ, S, a, q⟩ := q
  refine ⟨fun m σi' Hi => ∃ μi σi Si, Step μ H μi Hi ∧ At Γ X.N.length μi Hi σi Si σi' ∧ (whileG t b m σi Si).Sat (KO Γ X.N.length μ H E) (KE Γ W X.N.length μ H), ⟨n, μ, σ, S, Step.refl, a, q⟩, ?_⟩
  rintro m σi' Hi ⟨μi, σi, Si, si, ai, qi⟩
  cases m with
  | zero => exact qi.elim
  | succ m =>
    refine ttv_of ai (qi.of_bind.mono (fun _ _ z => z) fun _ _ => KE.mono si) fun bb S1 μ1 H1 h1 s1 a1 => ?_
    cases bb with
    | false =>
      rw [if_neg Bool.false_ne_true] at h1 ⊢
      exact KS.here (KS.mono (si.trans s1) h1) a1
    | true =>
      rw [if_pos rfl] at h1 ⊢
      refine ⟨fun σ'' H'' => ∃ μj σj Sj, Step μ H μj H'' ∧ At Γ X.N.length μj H'' σj Sj σ'' ∧ (whileG t b m σj Sj).Sat (KO Γ X.N.length μ H E) (KE Γ W X.N.length μ H), fun σ'' H'' z => ⟨m, Nat.lt_succ_self m, z⟩, ?_⟩
      have s13 := si.trans s1
      refine ⟨μ1, σi, S1, a1, h1.of_bind.mono (fun o S2 q2 => ?_) fun _ _ => KE.mono s13⟩
      cases o with
      | nx σ4 => exact fun μ4 σ4' H4 s4 a4 => ⟨μ4, σ4, S2, s13.trans s4, a4, q2⟩
      | ct σ4 => exact fun μ4 σ4' H4 s4 a4 => ⟨μ4, σ4, S2, s13.trans s4, a4, q2⟩
      | bk σ4 => exact KS.mono s13 q2
      | rt d => exact KD.mono s13 q2
end
/-! ### reversed(range(n)) -/
def iRevRg1 (f : F1) : FI := fun σ S => (f σ S).bind fun d S1 => match d with
  | .int j => if 0 ≤ j ∧ j < 4611686018427387904 then .ok ((List.range j.toNat).map fun (i : Nat) => D.int (j - 1 - (i : Int))) S1 else .no
  | _ => .no
theorem iw_fnC {Γ : Nat → Addr} {μ : Mp} {H : Hp} {n : Nat} {J : It} {fv : Nat → V} {fd : Nat → D} (w : Walk J n (fun _ => True) (YFn fv)) (hv : ∀ i μ1 H1, i < n → VR Γ μ1 H1 (fd i) (fv i)) : IW Γ μ H ((List.range n).map fd) J := by
  refine ⟨fun _ => True, fun i H1 x' H2 => i < n ∧ YFn fv i H1 x' H2, ?_, fun _ _ _ => trivial, fun i μ1 H1 S1 x' H2 s m q => ?_⟩
  · rw [List.length_map, List.length_range]
    exact w.mono (fun _ h => h) fun i H x H' hi _ y => ⟨hi, y⟩
  · obtain ⟨hi, rfl, rfl⟩ := q
    exact ⟨Step.refl, m, fd i, by rw [List.getElem?_map, List.getElem?_range hi]; rfl, hv i _ _ hi⟩
section
variable {Γ : Nat → Addr} {W : WX} {X : Cx} {tg e : Expr} {f : F1} {p p2 pos pos2 : Pos}
theorem i_revRg1 (hg : Gl X "reversed") (hm : X.mg "reversed" = none) (hg2 : Gl X "range") (hm2 : X.mg "range" = none) (he : SE Γ X W e f)
    (na : starEach [e] X.env = (false, eval e X.env) :: starEach [] X.env := by rfl)
    (hs : starEach [.Call (.Name "range" p2) [e] [] pos2] X.env = (false, eval (.Call (.Name "range" p2) [e] [] pos2) X.env) :: starEach [] X.env := by rfl) :
    SI Γ X W tg (.Call (.Name "reversed" p) [.Call (.Name "range" p2) [e] [] pos2] [] pos) (iRevRg1 f) := by
  refine PI.imp (pi_revR hg hm (prg_1 hg2 hm2 he na) hs) fun σ' H R h => ?_
  obtain ⟨μ, σ, S, a, h⟩ := h
  refine tev_of a h.of_bind fun d S1 μ1 v1 H1 h1 s1 a1 r1 => ?_
  split at h1
  · rename_i j
    split at h1
    · rename_i z
      cases r1
      refine ⟨j, rfl, by omega, by omega, by omega, by omega, ?_⟩
      have e1 : (j - 0).toNat = j.toNat := by rw [Int.sub_zero]
      rw [e1]
      refine h1 μ1 H1 _ s1 a1.mr (iw_fnC walk_rangeC fun i μ2 H2 hi => ?_)
      have e2 : (0 : Int) + ((j.toNat : Nat) : Int) - 1 + (i : Nat) * (-1) = j - 1 - (i : Int) := by omega
      rw [e2]
      exact .int _
    · exact h1.elim
  · exact h1.elim
end
/-! ### names as targets -/
section
variable {X : Cx} {pos px py pz : Pos} {i j l : Nat} {x y z : Str} {k : Nat}
theorem pgN (hN : X.N.Nodup) (hi : X.N[i]? = some x) (hx : Loc X.env.scope x := by first | exact Or.inl rfl | exact Or.inr rfl | assumption) (hf : X.fn x = true ∨ X.env.scope.names.lookup x = some .local := by first | exact .inl rfl | exact .inr rfl | assumption) : PG X (.Name x pos) (gName i) := pg_name hN hi hx hf
theorem pgN2 (hc : X.calm = true) (hN : X.N.Nodup) (hi : X.N[i]? = some x) (hj : X.N[j]? = some y) (hx : Loc X.env.scope x := by first | exact Or.inl rfl | exact Or.inr rfl | assumption) (hy : Loc X.env.scope y := by first | exact Or.inl rfl | exact Or.inr rfl | assumption) (fx : X.fn x = true ∨ X.env.scope.names.lookup x = some .local := by first | exact .inl rfl | exact .inr rfl | assumption) (fy : X.fn y = true ∨ X.env.scope.names.lookup y = some .local := by first | exact .inl rfl | exact .inr rfl | assumption)
    (hn : (assignEach [.Name x px, .Name y py] X.env).length = 2 := by rfl) (hst : (assignEach [.Name x px, .Name y py] X.env).findIdx? (·.1) = none := by rfl) : PG X (.Tuple [.Name x px, .Name y py] k pos) (gPat X.K (.tup [i, j])) := pg_pat2 hc hN hi hj hx hy fx fy hn hst
theorem pgN3 (hc : X.calm = true) (hN : X.N.Nodup) (hi : X.N[i]? = some x) (hj : X.N[j]? = some y) (hl : X.N[l]? = some z) (hx : Loc X.env.scope x := by first | exact Or.inl rfl | exact Or.inr rfl | assumption) (hy : Loc X.env.scope y := by first | exact Or.inl rfl | exact Or.inr rfl | assumption) (hz : Loc X.env.scope z := by first | exact Or.inl rfl | exact Or.inr rfl | assumption) (fx : X.fn x = true ∨ X.env.scope.names.lookup x = some .local := by first | exact .inl rfl | exact .inr rfl | assumption) (fy : X.fn y = true ∨ X.env.scope.names.lookup y = some .local := by first | exact .inl rfl | exact .inr rfl | assumption) (fz : X.fn z = true ∨ X.env.scope.names.lookup z = some .local := by first | exact .inl rfl | exact .inr rfl | assumption)
    (hn : (assignEach [.Name x px, .Name y py, .Name z pz] X.env).length = 3 := by rfl) (hst : (assignEach [.Name x px, .Name y py, .Name z pz] X.env).findIdx? (·.1) = none := by rfl) : PG X (.Tuple [.Name x px, .Name y py, .Name z pz] k pos) (gPat X.K (.tup [i, j, l])) := pg_pat3 hc hN hi hj hl hx hy hz fx fy fz hn hst
end
section
variable {Γ : Nat → Addr} {W : WX} {X : Cx} {a b : Expr} {pos : Pos} {f g : F1}
theorem t_inA (hu : X.A.units + 1 < cLine) (ha : SE Γ X W a f) (hb : SE Γ X W b g) (hm : behindInMarks .In b = false := by rfl) : ST Γ X W (.Compare a [.In] [b] pos) (tBin opInA f g) := t_binIf (t_din (hu := hu) ha hb hm) (t_cmp ok_in ha hb hm)
theorem t_notInA (hu : X.A.units + 1 < cLine) (ha : SE Γ X W a f) (hb : SE Γ X W b g) (hm : behindInMarks .NotIn b = false := by rfl) : ST Γ X W (.Compare a [.NotIn] [b] pos) (tBin opNotInA f g) := t_binIf (t_dnotin (hu := hu) ha hb hm) (t_cmp ok_notIn ha hb hm)
theorem hu64 {A : Around} {k : Nat} (hr : Room k A) : A.units + 64 < cLine := hr.units
end
def isDkL (ds : List D) (S : Sto) : Bool := match ds with
  | [d] => (dictK d S).isSome
  | _ => false
/-- len of what is no own object; list(x) -/
def opLenU : OpC := fun ds S => if isDkL ds S = true then opLenDk ds S else opLen ds S
def opListU : OpC := fun ds S => if isDkL ds S = true then opListD ds S else opList ds S
end Ev
namespace Ev
open PySem PySem.Spec PyProof.Rows L2
/-! ### the head: what the top leaves, read by a hook of one's own -/
theorem DefC.fn {K : PySem.W.Frag} {d : DefC} (e : fnC K (d.ad K) = d.val) (c : d.ok K = true) : ∃ fd, Fun K d.name d.qual d.st (d.ad K) fd := by
  obtain ⟨kp, c2⟩ := He.ba c
  unfold fnC at e
  cases q : K.lookup (d.ad K) with
  | none =>
    rw [q] at c2
    cases c2
  | some o =>
    obtain ⟨oc, od, dt, osl⟩ := o
    rw [q] at c2 e
    cases dt with
    | func fd =>
      obtain ⟨n1, n2, n3, n4, n5, n6, n7, n8, n9, n10, n11, n12, n13, n14, n15⟩ := fd
      have e2 : (some (n1, n2, n3, n4, n5, n6, n7, n8, n15) : FnC) = some (d.name, d.qual, defArgs d.st, .stmts (defBody d.st), defScope d.st, mainGlobals, [], .none, builtinsNs) := e
      simp only [Option.some.injEq, Prod.mk.injEq] at e2
      obtain ⟨h1, h2, h3, h4, h5, h6, h7, h8, h9⟩ := e2
      subst h1 h2 h3 h4 h5 h6 h7 h8 h9
      exact ⟨_, fun_mk (st := d.st) q c2 kp⟩
    | _ => cases c2
section
variable {chk : PySem.W.Frag → List Bool} {fn : List DefC} {K : PySem.W.Frag}
theorem SaysC.fact (c : SaysC chk fn K) (i : Nat) {b : Bool} (h : (chk K)[i]? = some b := by rfl) : b = true := by
  have c1 := (He.ba (show ((chk K).all id && fn.all fun d => d.ok K) = true from congrArg (fun z : AlC => z.1) c)).1
  exact List.all_eq_true.mp c1 b (List.mem_of_getElem? h)
theorem SaysC.def_ (c : SaysC chk fn K) (i : Nat) {d : DefC} (h : fn[i]? = some d := by rfl) : ∃ fd, Fun K d.name d.qual d.st (d.ad K) fd := by
  have c2 := (He.ba (show ((chk K).all id && fn.all fun d => d.ok K) = true from congrArg (fun z : AlC => z.1) c)).2
  have e : fn.map (fun d => fnC K (d.ad K)) = fn.map DefC.val := congrArg (fun z : AlC => z.2) c
  have e2 : (fn.map fun d => fnC K (d.ad K))[i]? = (fn.map DefC.val)[i]? := by rw [e]
  rw [List.getElem?_map, List.getElem?_map, h] at e2
  exact DefC.fn (Option.some.inj e2) (List.all_eq_true.mp c2 d (List.mem_of_getElem? h))
end
/-! ### addresses -/
theorem recB_ok {K : PySem.W.Frag} {p : Addr} {n : String} (h : recB K p n = true) : ∃ rest, PySem.W.recIn K p n = some (.ref (recAd K p n) :: rest) := by
  unfold recB at h
  unfold recAd
  split at h
  · rename_i g rest e
    rw [e]
    exact ⟨rest, rfl⟩
  · cases h
/-! ### facts -/
section
variable {K : PySem.W.Frag} {C f p g : Addr} {x m : Str}
theorem bCls_ok (c : bCls K C = true) : Cls K C := by
  obtain ⟨c1, c⟩ := He.ba c
  obtain ⟨c2, c⟩ := He.ba c
  obtain ⟨c3, c4⟩ := He.ba c
  exact ⟨c1, c2, c3, He.eqO_ok c4⟩
theorem bClsI_ok (c : bClsI K C = true) : ClsI K C := by
  obtain ⟨c1, c⟩ := He.ba c
  obtain ⟨c2, c⟩ := He.ba c
  obtain ⟨c3, c⟩ := He.ba c
  obtain ⟨c4, c5⟩ := He.ba c
  exact ⟨bCls_ok c1, He.eqO_ok c2, He.eqO_ok c3, of_decide_eq_true c4, of_decide_eq_true c5⟩
theorem bOwn_ok (c : bOwn K C m f = true) : PySem.W.findIn K (.ref C) m = some (some (.ref f)) ∧ PySem.W.isFn K (.ref f) = true := by
  obtain ⟨c1, c2⟩ := He.ba c
  exact ⟨He.eqO_ok c1, c2⟩
theorem bMeth_ok (c : bMeth K C m f = true) : Meth K C m f := by
  obtain ⟨c1, c2⟩ := He.ba c
  obtain ⟨c3, c4⟩ := bOwn_ok c1
  exact ⟨c3, c4, c2⟩
theorem bMk_ok (c : bMk K C f = true) : Mk K C f := by
  obtain ⟨c1, c⟩ := He.ba c
  obtain ⟨c2, c3⟩ := He.ba c
  obtain ⟨c4, c5⟩ := bOwn_ok c2
  exact ⟨c1, c4, c5, c3⟩
theorem bProp_ok (c : bProp K C m p = true) : PropOf K C m p (recAd K p "property") := by
  obtain ⟨c1, c⟩ := He.ba c
  obtain ⟨c2, c⟩ := He.ba c
  obtain ⟨c3, c4⟩ := He.ba c
  exact ⟨He.eqO_ok c1, He.eqO_ok c2, of_decide_eq_true c3, recB_ok c4⟩
theorem bCRead_ok (c : bCRead K C = true) : ClX.CRead K C (.type "type") := by
  obtain ⟨c1, c2⟩ := He.ba c
  exact ⟨c1, He.eqO_ok c2⟩
theorem bCMet_ok (c : bCMet K C m p = true) : ClX.CMet K C (.type "type") m p (recAd K p "classmethod") := by
  obtain ⟨c1, c⟩ := He.ba c
  obtain ⟨c2, c3⟩ := He.ba c
  refine ⟨?_, recB_ok c2, c3⟩
  unfold isGetOf at c1
  split at c1
  · rename_i b q D e
    obtain ⟨d1, d⟩ := He.ba c1
    obtain ⟨d2, d3⟩ := He.ba d
    rw [e, of_decide_eq_true d2, of_decide_eq_true d3, eq_of_beq d1]
  · cases c1
theorem bCallO_ok (c : bCallO K C g = true) : StX.CallO K C g := by
  obtain ⟨c1, c2⟩ := He.ba c
  obtain ⟨c3, c4⟩ := bOwn_ok c1
  exact ⟨c3, c4, c2⟩
end
/-! ### the end -/
theorem frag_mem {a : Addr} {o : Obj} : ∀ {K : PySem.W.Frag}, K.lookup a = some o → (a, o) ∈ K
  | [], h => by cases h
  | (b, u) :: r, h => by
    have h2 : (match a == b with | true => some u | false => List.lookup a r) = some o := h
    cases q : (a == b) with
    | true =>
      rw [q] at h2
      have e : u = o := Option.some.inj h2
      rw [e, ← beq_iff_eq.mp q]
      exact List.mem_cons_self
    | false =>
      rw [q] at h2
      exact List.mem_cons_of_mem _ (frag_mem (K := r) h2)
theorem walk_ofW {l : PySem.W.OpenLaw} {n k : Nat} {q : Program} {loose : List Str} {XP : (Str → Option Value) → Heap → Prop} {YP : World → Heap → Prop} {d : DefRec} {CX : World → CXT} {x : Str}
    (hn : l.most = some n) (hn2 : n ≤ sizeLine) (hdf : d.params.defaults = []) (hr : Room k callerA)
    (F : ∀ (w : World) (mg : Str → Option Value) (fa : Addr) (h : Heap), YP w h → h.Ns mainGlobals mg → mg d.name = some (.ref fa) →
      ∃ (K : PySem.W.Frag) (fd : FuncData) (sp : Sp), K.In h ∧ (∀ (s : Shared) (u : Value), BindsTo s fd ⟨[u], []⟩ [(x, u)]) ∧
        (∀ (H : Hp) (a : Addr) (ns : List Int), ns.length ≤ n → Only H → SqL K H a (ns.map V.int) → sp [.ref a] H (fun v _ => v = .bl true) fun _ _ _ => False) ∧
        ∀ base : Heap, K.In base → base.Ns mainGlobals mg → FnOk l.prog w K mg base (CX w) k fa fd [x] sp)
    (hCX : ∀ (w : World) (H : Hp) (s : Shared) (e : Value) (s' : Shared), CX w [] H s (fun _ _ _ => False) e s' → False) :
    PySem.W.WalkO q loose XP YP l.row.toRowW d [] (fun f vs => PySem.call f vs) := by
  refine Att.attach_call hn hdf fun w s₀ s₁ mg mb fa o pm cd doc a vs ns G Y ho hd hcd hmg hobj hints hlen hg => ?_
  obtain ⟨K, fd, sp, KX, hb, hsp, hF⟩ := F w mg fa _ Y G.T.g hmg
  exact law_call KX G.T.g G.T.b G.T.builtins G.T.nolimit hg hobj hints (Nat.le_trans hlen hn2) hr hF hb (fun H hO hS => hsp H a ns hlen hO hS) fun H e s' => hCX w H s₁ e s'
theorem cx_no (P : Program) (w : World) (H : Hp) (s : Shared) (e : Value) (s' : Shared) (h : L2.CX P w [] H s (fun _ _ _ => False) e s') : False := by
  obtain ⟨a, B, H', cls, d, _, _, _, _, _, _, _, q⟩ := h
  exact q
/-- a def's body, with its function object -/
theorem fn_bodyK {Γ : Nat → Addr} {P : Program} {w : World} {K : PySem.W.Frag} {mg : Str → Option Value} {base : Heap} {x qual : Str} {st : Stmt} {f : Addr} {fd : FuncData} {N ps : List Str} {k : Nat} {g : FS} (F : Fun K x qual st f fd) (Sc : FnScope N ps (defScope st)) (hN : ps.length ≤ N.length)
    (body : ∀ (cdv : Value) (A : Around) (outer : List Env) (s : Shared) (H : Hp) (E : XK), Room k (A.deeper (envOfC qual (defScope st) s.heap.objs.size f cdv)) →
      SB Γ (cxOf (L2.CX P w) P w K mg base N qual (defScope st) f cdv A outer s H E) (fun cls d _ H => E cls d H) (defBody st) g) :
    FnOk P w K mg base (L2.CX P w) (k + 1) f fd ps (spF Γ (runB N.length ps.length g)) := by
  refine F.okX Sc (fun vs H Q E h => ?_) (fun cdv A outer s H vs Q E hr h => ?_)
  · obtain ⟨μ, ds, S, r, m, sat⟩ := h
    unfold runB at sat
    split at sat
    · rename_i hl
      rw [← r.length]
      exact hl
    · exact sat.elim
  · obtain ⟨μ, ds, S, r, m, sat⟩ := h
    unfold runB at sat
    split at sat
    · rename_i hl
      refine ⟨_, body cdv A outer s H E hr, ?_⟩
      refine ⟨μ, startD N.length ds, S, (at_start (N := N) m r (by omega) : At Γ N.length μ H (startD N.length ds) S (L2.start N vs)), ?_⟩
      unfold endD at sat
      refine sat.of_bind.mono (fun o S1 q => ?_) fun x S1 q => ?_
      · cases o with
        | rt d => exact q
        | nx σ => exact fun μ' σ' H' s' a' => q μ' _ H' s' a'.mr .non
        | bk σ => exact q.elim
        | ct σ => exact q.elim
      · exact fun μ' H' cls d σ1 s' m' xr _ => q μ' H' cls d s' m' xr
    · exact sat.elim
end Ev
namespace Ev
open PySem PySem.Spec PyProof.Rows L2
/-! ### zip of three tuples -/
def ItzT3 (K : PySem.W.Frag) (a b c : Addr) : It :=
  ⟨fun i H => ∃ (xs ys zs : List V) (x y z : V), SqT K H a xs ∧ SqT K H b ys ∧ SqT K H c zs ∧ xs[i]? = some x ∧ ys[i]? = some y ∧ zs[i]? = some z,
    fun i H v H' => ∃ T x y z, v = .ref T ∧ H T = none ∧ H' = upd H T (.tup [x, y, z]) ∧ (∀ xs, SqT K H a xs → xs[i]? = some x) ∧ (∀ ys, SqT K H b ys → ys[i]? = some y) ∧ ∀ zs, SqT K H c zs → zs[i]? = some z,
    fun i H => ∃ xs ys zs : List V, SqT K H a xs ∧ SqT K H b ys ∧ SqT K H c zs ∧ i ≤ xs.length ∧ i ≤ ys.length ∧ i ≤ zs.length ∧ (i = xs.length ∨ i = ys.length ∨ i = zs.length)⟩
theorem turn_zipT3 {P : Program} {w : World} {K : PySem.W.Frag} {elts : List Expr} {kk : Nat} {tpos : Pos} {a b c z TI TO i1 i2 i3 : Addr} (D : ZipSep3 z TI TO i1 i2 i3 [i1, a] [i2, b] [i3, c]) (n1 : a ≠ i1) (n2 : b ≠ i2) (n3 : c ≠ i3) :
    Turn P w K (.Tuple elts kk tpos) (ItzT3 K a b c) [z, TI, TO, i1, i2, i3] z (fun i h => IsZip h z TI TO .none ∧ IsTupOf3 h TI (.ref i1) (.ref i2) (.ref i3) ∧ (∃ x y u, IsTupOf3 h TO x y u) ∧ h.IsTupleIter i1 a i ∧ h.IsTupleIter i2 b i ∧ h.IsTupleIter i3 c i) where
  mem := by simp
  obj := fun i h st q hc => by
    obtain ⟨hz, hTI, ⟨x, y, u, hTO⟩, ⟨o1, e1, _, d1⟩, ⟨o2, e2, _, d2⟩, ⟨o3, e3, _, d3⟩⟩ := st
    have e' : q = z ∨ q = TI ∨ q = TO ∨ q = i1 ∨ q = i2 ∨ q = i3 := by simpa using hc
    rcases e' with q | q | q | q | q | q
    · rw [q]; exact ⟨_, hz, fun v q => nomatch q⟩
    · rw [q]; exact ⟨_, hTI, fun v q => nomatch q⟩
    · rw [q]; exact ⟨_, hTO, fun v q => nomatch q⟩
    · rw [q]; exact ⟨o1, e1, fun v q => by rw [d1] at q; cases q⟩
    · rw [q]; exact ⟨o2, e2, fun v q => by rw [d2] at q; cases q⟩
    · rw [q]; exact ⟨o3, e3, fun v q => by rw [d3] at q; cases q⟩
  keep := fun i h h' st k => by
    obtain ⟨hz, hTI, ⟨x, y, u, hTO⟩, h1, h2, h3⟩ := st
    exact ⟨k z (by simp) _ hz, k TI (by simp) _ hTI, ⟨x, y, u, k TO (by simp) _ hTO⟩, h1.at fun o q => k i1 (by simp) o q, h2.at fun o q => k i2 (by simp) o q, h3.at fun o q => k i3 (by simp) o q⟩
  item := by
    intro X hP hw hK hc i pins s σ H E I hf st hg
    subst hP hw hK
    obtain ⟨hz, hTI, ⟨x0, y0, u0, hTO⟩, h1, h2, h3⟩ := st
    obtain ⟨xs, ys, zs, x, y, u, hqx, hqy, hqz, hx, hy, hu⟩ := hg
    obtain ⟨its, rv, p, _⟩ := I.tuple hqx
    obtain ⟨its2, rv2, p2, _⟩ := I.tuple hqy
    obtain ⟨its3, rv3, p3, _⟩ := I.tuple hqz
    obtain ⟨v1, hv1, rv1'⟩ := rv.get hx
    obtain ⟨v2, hv2, rv2'⟩ := rv2.get hy
    obtain ⟨v3, hv3, rv3'⟩ := rv3.get hu
    have hzl : z < s.heap.objs.size := Heap.lt_size hz
    have lt : ∀ {l : List Value} {v : Value}, l[i]? = some v → i < l.toArray.size := fun h => by
      have := (List.getElem?_eq_some_iff.mp h).1
      simpa using this
    refine wpAny_pyNext_zipD3_item D (Draws.tuple (prog := X.prog) (w := X.w) (A := X.A.in1) (I.ok.hd hc) i1 a n1 its.toArray) (Draws.tuple (prog := X.prog) (w := X.w) (A := X.A.in1) (I.ok.hd hc) i2 b n2 its2.toArray) (Draws.tuple (prog := X.prog) (w := X.w) (A := X.A.in1) (I.ok.hd hc) i3 c n3 its3.toArray) hz hTI hTO ⟨h1, p⟩ ⟨h2, p2⟩ ⟨h3, p3⟩ (lt hv1) (lt hv2) (lt hv3) fun x1 x2 x3 h' tk P1 P2 P3 z' TO' st1 st2 st3 hT hsz hk => ?_
    have ex1 : x1 = v1 := by
      rw [List.getElem?_toArray, hv1] at P1
      exact (Option.some.inj P1).symm
    have ex2 : x2 = v2 := by
      rw [List.getElem?_toArray, hv2] at P2
      exact (Option.some.inj P2).symm
    have ex3 : x3 = v3 := by
      rw [List.getElem?_toArray, hv3] at P3
      exact (Option.some.inj P3).symm
    subst ex1 ex2 ex3
    obtain ⟨h1', _⟩ := st1
    obtain ⟨h2', _⟩ := st2
    obtain ⟨h3', _⟩ := st3
    refine ⟨_, rfl, wpAny_letOwnedTupleGo_zip (s := { s with heap := h', toks := tk }) z' fun h'' z'' sb => ?_⟩
    have hT2 : h''.get? s.heap.objs.size = some { cls := .type "tuple", data := .seq #[x1, x2, x3] } := (sb.2 _ (Nat.ne_of_gt hzl)).trans hT
    have new : ObjOk X.prog X.w (upd H s.heap.objs.size (.tup [x, y, u])) h'' s.heap.objs.size (.tup [x, y, u]) :=
      ⟨by show 3 ≤ sizeLine; decide, [x1, x2, x3], .cons rv1' (.cons rv2' (.cons rv3' .nil)), ⟨_, hT2, rfl, _, rfl⟩⟩
    have I1 : Inv X pins σ (upd H s.heap.objs.size (.tup [x, y, u])) { s with heap := h'', toks := tk } :=
      I.turnedNew (t' := tk) (ch := [z, TI, TO, i1, i2, i3]) (fun q o hb e => (sb.2 q (fun q' => hb (by simp [q']))).trans (hk q o (fun q' => hb (by simp [q'])) (fun q' => hb (by simp [q'])) (fun q' => hb (by simp [q'])) (fun q' => hb (by simp [q'])) (fun q' => hb (by simp [q'])) e)) hf (Nat.le_refl _) new
    have iz1 : i1 ≠ z := fun e => D.zf1 (by rw [← e]; simp)
    have iz2 : i2 ≠ z := fun e => D.zf2 (by rw [← e]; simp)
    have iz3 : i3 ≠ z := fun e => D.zf3 (by rw [← e]; simp)
    refine ⟨.ref s.heap.objs.size, _, I1, rfl, ⟨_, x, y, u, rfl, I.hok.fresh (Nat.le_refl _), rfl, fun l hl => by rw [I.tuple_inj hl hqx]; exact hx, fun l hl => by rw [I.tuple_inj hl hqy]; exact hy, fun l hl => by rw [I.tuple_inj hl hqz]; exact hu⟩, ⟨z'', ?_, ⟨x1, x2, x3, ?_⟩, ?_, ?_, ?_⟩, fun q hcm => ?_⟩
    · exact (sb.2 _ D.TIz).trans (hk _ _ D.TIz D.TITO D.TIi1 D.TIi2 D.TIi3 hTI)
    · exact (sb.2 _ D.TOz).trans TO'
    · exact h1'.at fun o q => (sb.2 _ iz1).trans q
    · exact h2'.at fun o q => (sb.2 _ iz2).trans q
    · exact h3'.at fun o q => (sb.2 _ iz3).trans q
    · have hlt : q < s.heap.objs.size := by
        have e' : q = z ∨ q = TI ∨ q = TO ∨ q = i1 ∨ q = i2 ∨ q = i3 := by simpa using hcm
        rcases e' with q | q | q | q | q | q
        · rw [q]; exact hzl
        · rw [q]; exact Heap.lt_size hTI
        · rw [q]; exact Heap.lt_size hTO
        · rw [q]; obtain ⟨_, e1, _⟩ := h1; exact Heap.lt_size e1
        · rw [q]; obtain ⟨_, e2, _⟩ := h2; exact Heap.lt_size e2
        · rw [q]; obtain ⟨_, e3, _⟩ := h3; exact Heap.lt_size e3
      rw [upd_ne (Nat.ne_of_lt hlt)]
      exact (hf q hcm).1
  done := by
    intro X hP hw hK hc i pins s σ H E I hf st hg
    subst hP hw hK
    obtain ⟨hz, hTI, ⟨x0, y0, u0, hTO⟩, h1, h2, h3⟩ := st
    obtain ⟨xs, ys, zs, hqx, hqy, hqz, b1, b2, b3, hend⟩ := hg
    obtain ⟨its, rv, p, _⟩ := I.tuple hqx
    obtain ⟨its2, rv2, p2, _⟩ := I.tuple hqy
    obtain ⟨its3, rv3, p3, _⟩ := I.tuple hqz
    have l1 := rv.length
    have l2 := rv2.length
    have l3 := rv3.length
    exact wpAny_pyNext_zipD3_end D (Draws.tuple (prog := X.prog) (w := X.w) (A := X.A.in1) (I.ok.hd hc) i1 a n1 its.toArray) (Draws.tuple (prog := X.prog) (w := X.w) (A := X.A.in1) (I.ok.hd hc) i2 b n2 its2.toArray) (Draws.tuple (prog := X.prog) (w := X.w) (A := X.A.in1) (I.ok.hd hc) i3 c n3 its3.toArray) hz hTI hTO ⟨h1, p⟩ ⟨h2, p2⟩ ⟨h3, p3⟩ (by simp; omega) (by simp; omega) (by simp; omega) (by simp; omega) fun h' tk hk => ⟨rfl, I.turnedL (t' := tk) (ch := [z, TI, TO, i1, i2, i3]) (fun q o hb e =>
      hk q o (fun q' => hb (by simp [q'])) (fun q' => hb (by simp [q'])) (fun q' => hb (by simp [q'])) (fun q' => hb (by simp [q'])) (fun q' => hb (by simp [q'])) e) hf⟩
  self := fun A i s Q E st h => wpAny_pyIter_zip st.1 h
def rZip3 (K : PySem.W.Frag) (ta : TA) : TI := fun σ H R => ta σ H fun vs H1 => ∃ a b c xs ys zs, vs = [.ref a, .ref b, .ref c] ∧ SqT K H1 a xs ∧ SqT K H1 b ys ∧ SqT K H1 c zs ∧ R (ItzT3 K a b c) H1
theorem pi_zip3 {X : Cx} {e e2 e3 : Expr} {ta : TA} {p pos tpos : Pos} {elts : List Expr} {kk : Nat} (hg : Gl X "zip") (hm : X.mg "zip" = none) (ha : PA X [e, e2, e3] ta)
    (hs : starEach [e, e2, e3] X.env = (false, eval e X.env) :: starEach [e2, e3] X.env := by rfl) (hpl : (backTo pos (starEach [e2, e3] X.env)).any (·.1) = false := by rfl) :
    PI X (.Tuple elts kk tpos) (.Call (.Name "zip" p) [e, e2, e3] [] pos) (rZip3 X.K ta) := by
  refine ⟨fun pins s σ H R I h => ?_⟩
  refine Call_ (ld_blt I hg hm PyProof.Rows.boot_zip (PyProof.Rows.callWith_type1 (thn (ha.run pos pins s σ H _ I h) fun us s1 ⟨vs, H1, I1, r1, q1⟩ => ?_) hs hpl))
  obtain ⟨a, b, c, xs, ys, zs, ex, hqx, hqy, hqz, q⟩ := q1
  subst ex
  cases r1 with
  | cons r rr =>
    cases rr with
    | cons r' rr =>
      cases rr with
      | cons r'' rr =>
        cases rr
        cases r
        cases r'
        cases r''
        obtain ⟨its, rv, p1, _⟩ := I1.tuple hqx
        obtain ⟨its2, rv2, p2, _⟩ := I1.tuple hqy
        obtain ⟨its3, rv3, p3, _⟩ := I1.tuple hqz
        have la : a < s1.heap.objs.size := by obtain ⟨o, ho, _⟩ := id p1; exact Heap.lt_size ho
        have lb : b < s1.heap.objs.size := by obtain ⟨o, ho, _⟩ := id p2; exact Heap.lt_size ho
        have lc : c < s1.heap.objs.size := by obtain ⟨o, ho, _⟩ := id p3; exact Heap.lt_size ho
        refine zip_begins3 (begins_tuple a its.toArray) (begins_tuple b its2.toArray) (begins_tuple c its3.toArray) p1 p2 p3 fun h' hz hTI hTO g1 g2 g3 hsz hk => wpAny_pyIter_zip hz ?_
        have I2 : Inv X pins σ H1 { s1 with heap := h' } := I1.kept (t' := s1.toks) hk
        have D := zip_sep3 (N := s1.heap.objs.size) (fp1 := [a]) (fp2 := [b]) (fp3 := [c]) (fun q hq => by rw [List.mem_singleton.mp hq]; exact la) (fun q hq => by rw [List.mem_singleton.mp hq]; exact lb) (fun q hq => by rw [List.mem_singleton.mp hq]; exact lc)
        refine ⟨s1.heap.objs.size + 5, [s1.heap.objs.size + 5, s1.heap.objs.size + 3, s1.heap.objs.size + 4, s1.heap.objs.size, s1.heap.objs.size + 1, s1.heap.objs.size + 2], _, _, H1, rfl, I2, turn_zipT3 D (Nat.ne_of_lt la) (Nat.ne_of_lt (Nat.lt_succ_of_lt lb)) (Nat.ne_of_lt (Nat.lt_succ_of_lt (Nat.lt_succ_of_lt lc))), ⟨hz, hTI, ⟨_, _, _, hTO⟩, ⟨_, g1, rfl, rfl⟩, ⟨_, g2, rfl, rfl⟩, ⟨_, g3, rfl, rfl⟩⟩, fun q hcm => ?_, q⟩
        have e' : q = s1.heap.objs.size + 5 ∨ q = s1.heap.objs.size + 3 ∨ q = s1.heap.objs.size + 4 ∨ q = s1.heap.objs.size ∨ q = s1.heap.objs.size + 1 ∨ q = s1.heap.objs.size + 2 := by simpa using hcm
        have hle : s1.heap.objs.size ≤ q := by
          rcases e' with z | z | z | z | z | z
          · rw [z]; exact Nat.le_add_right _ _
          · rw [z]; exact Nat.le_add_right _ _
          · rw [z]; exact Nat.le_add_right _ _
          · rw [z]; exact Nat.le_refl _
          · rw [z]; exact Nat.le_add_right _ _
          · rw [z]; exact Nat.le_add_right _ _
        exact I1.fpOk hle (I1.hok.fresh hle)
def YTrip (xs ys zs : Nat → Option V) : Nat → Hp → V → Hp → Prop := fun i H v H' => ∃ T x y z, v = .ref T ∧ H T = none ∧ H' = upd H T (.tup [x, y, z]) ∧ xs i = some x ∧ ys i = some y ∧ zs i = some z
theorem walk_zipT3 {K : PySem.W.Frag} {a b c : Addr} {xs ys zs : List V} {n : Nat} (hn : n = min (min xs.length ys.length) zs.length) : Walk (ItzT3 K a b c) n (fun H => SqT K H a xs ∧ SqT K H b ys ∧ SqT K H c zs) (YTrip (fun i => xs[i]?) (fun i => ys[i]?) (fun i => zs[i]?)) := by
  subst hn
  refine ⟨fun i _ hi q => ?_, fun _ q => ⟨xs, ys, zs, q.1, q.2.1, q.2.2, by omega, by omega, by omega, by omega⟩, fun i H v H' _ q y => ?_⟩
  · have h1 : i < xs.length := by omega
    have h2 : i < ys.length := by omega
    have h3 : i < zs.length := by omega
    exact ⟨xs, ys, zs, xs[i], ys[i], zs[i], q.1, q.2.1, q.2.2, by simp [h1], by simp [h2], by simp [h3]⟩
  · obtain ⟨T, x, y, z, h1, h2, h3, h4, h5, h6⟩ := y
    exact ⟨T, x, y, z, h1, h2, h3, h4 xs q.1, h5 ys q.2.1, h6 zs q.2.2⟩
def zip3D : List D → List D → List D → List D
  | x :: xs, y :: ys, z :: zs => .tup [x, y, z] :: zip3D xs ys zs
  | _, _, _ => []
theorem zip3D_len : ∀ xs ys zs : List D, (zip3D xs ys zs).length = min (min xs.length ys.length) zs.length
  | [], _, _ => by simp [zip3D]
  | _ :: _, [], _ => by simp [zip3D]
  | _ :: _, _ :: _, [] => by simp [zip3D]
  | x :: xs, y :: ys, z :: zs => by
    show (zip3D xs ys zs).length + 1 = _
    rw [zip3D_len xs ys zs, List.length_cons, List.length_cons, List.length_cons]
    omega
theorem zip3D_at : ∀ (xs ys zs : List D) (i : Nat) (a b c : D), xs[i]? = some a → ys[i]? = some b → zs[i]? = some c → (zip3D xs ys zs)[i]? = some (.tup [a, b, c])
  | [], _, _, _, _, _, _, h, _, _ => by simp at h
  | _ :: _, [], _, _, _, _, _, _, h, _ => by simp at h
  | _ :: _, _ :: _, [], _, _, _, _, _, _, h => by simp at h
  | x :: xs, y :: ys, z :: zs, 0, a, b, c, h1, h2, h3 => by
    simp at h1 h2 h3
    subst h1 h2 h3
    rfl
  | x :: xs, y :: ys, z :: zs, i + 1, a, b, c, h1, h2, h3 => by
    show (zip3D xs ys zs)[i]? = _
    exact zip3D_at xs ys zs i a b c (by simpa using h1) (by simpa using h2) (by simpa using h3)
def iZip3 (g : FA) : FI := fun σ S => (g σ S).bind fun ds S1 => match ds with
  | [.tup xs, .tup ys, .tup zs] => .ok (zip3D xs ys zs) S1
  | _ => .no
theorem iw_trip {Γ : Nat → Addr} {μ : Mp} {H : Hp} {xs : List D} {n : Nat} {J : It} {G : Hp → Prop} {fx fy fz : Nat → Option V} (hn : xs.length = n) (w : Walk J n G (YTrip fx fy fz)) (g : ∀ μ1 H1, Seen Γ μ H μ1 H1 → G H1)
    (hv : ∀ i μ1 H1 x y z, Seen Γ μ H μ1 H1 → fx i = some x → fy i = some y → fz i = some z → ∃ a b c, xs[i]? = some (.tup [a, b, c]) ∧ VR Γ μ1 H1 a x ∧ VR Γ μ1 H1 b y ∧ VR Γ μ1 H1 c z) : IW Γ μ H xs J := by
  refine ⟨G, YTrip fx fy fz, by rw [hn]; exact w, g, fun i μ1 H1 S1 x' H2 s m q => ?_⟩
  obtain ⟨T, x, y, z, rfl, hT, rfl, ex, ey, ez⟩ := q
  have st : Step μ1 H1 μ1 (upd H1 T (.tup [x, y, z])) := Step.new hT
  obtain ⟨a, b, c, e, ra, rb, rc⟩ := hv i μ1 H1 x y z s ex ey ez
  exact ⟨st, m.new hT, _, e, .tup (m.fresh hT) upd_same (.cons (ra.mono st) (.cons (rb.mono st) (.cons (rc.mono st) .nil)))⟩
section
variable {Γ : Nat → Addr} {W : WX} {X : Cx} {e e2 e3 : Expr} {g : FA} {p pos : Pos}
theorem i_zip3 {kk : Nat} {tpos : Pos} {elts : List Expr} (hg : Gl X "zip") (hm : X.mg "zip" = none) (ha : SA Γ X W [e, e2, e3] g) (hs : starEach [e, e2, e3] X.env = (false, eval e X.env) :: starEach [e2, e3] X.env := by rfl) (hpl : (backTo pos (starEach [e2, e3] X.env)).any (·.1) = false := by rfl) :
    SI Γ X W (.Tuple elts kk tpos) (.Call (.Name "zip" p) [e, e2, e3] [] pos) (iZip3 g) := by
  refine PI.imp (pi_zip3 hg hm ha hs hpl) fun σ' H R h => ?_
  obtain ⟨μ, σ, S, a, h⟩ := h
  refine tav_of a h.of_bind fun ds S1 μ1 vs H1 h1 s1 a1 r1 => ?_
  split at h1
  · cases r1 with
    | cons r r1 =>
      cases r1 with
      | cons r2 r1 =>
        cases r1 with
        | cons r3 r1 =>
          cases r1
          cases r with
          | tup n1 e1 rs1 =>
            cases r2 with
            | tup n2 e2 rs2 =>
              cases r3 with
              | tup n3 e3 rs3 =>
                refine ⟨_, _, _, _, _, _, rfl, .inl (.inl e1), .inl (.inl e2), .inl (.inl e3), h1 μ1 H1 _ s1 a1.mr (iw_trip (by rw [zip3D_len, rs1.length, rs2.length, rs3.length]) (walk_zipT3 rfl) (fun μ2 H2 s2 => ⟨.inl (.inl (s2.keep _ _ e1 n1).2), .inl (.inl (s2.keep _ _ e2 n2).2), .inl (.inl (s2.keep _ _ e3 n3).2)⟩) fun i μ2 H2 x y z s2 ex ey ez => ?_)⟩
                obtain ⟨d, ed, rd⟩ := rs1.at_back ex
                obtain ⟨d2, ed2, rd2⟩ := rs2.at_back ey
                obtain ⟨d3, ed3, rd3⟩ := rs3.at_back ez
                exact ⟨d, d2, d3, zip3D_at _ _ _ i _ _ _ ed ed2 ed3, rd.seen s2, rd2.seen s2, rd3.seen s2⟩
  · exact h1.elim
end
end Ev
set_option maxHeartbeats 3200000
namespace Ev
open PySem PySem.Spec PyProof.Rows L2
/-! ### sorted(set(a list of ints)) -/
section
variable {P : Program} {w : World} {A : Around} {E : Value → Shared → Prop} {s : Shared}
/-- a set without members, as it is made -/
abbrev set0 (w : World) : Obj := { cls := .type "set", dict := none, data := .set #[] 0 (.fresh 0 0 (!w.params.followText "set-order")) }
/-- what set(l) hands on -/
abbrev SetEnd (w : World) (s : Shared) (ns : List Int) (s2 : Shared) : Prop := ∃ (h' : Heap) (tk c : Nat), s2 = { s with heap := h', toks := tk } ∧ SetR w h' s.heap.objs.size (fun j => decide (j ∈ ns)) c ∧ c ≤ ns.length ∧ ∀ b o, s.heap.get? b = some o → h'.get? b = some o
theorem set_of_listI {l : Addr} {items : Array Value} {ns : List Int} {Q : Value → Shared → Prop} (hh : A.handled = none) (hl : s.heap.IsList l items) (hit : IntsAre items.toList ns) (hb : ns.length + 1 < scanBound)
    (fin : ∀ s2, SetEnd w s ns s2 → Q (.ref s.heap.objs.size) s2) : wpAny (model P w) A (call (.type "set") [.ref l]) Q E s := by
  have len : items.size = ns.length := by rw [← hit.length, Array.length_toList]
  have N : s.heap.objs.size < (s.heap.push (set0 w)).objs.size := by rw [Heap.size_push]; exact Nat.lt_succ_self _
  obtain ⟨c, tl, hmro⟩ := F.called_set.mro
  have m1 := F.called_set.made
  have m2 := F.called_set.sub
  have m3 := F.called_set.notType
  have m4 := F.called_set.canCreate
  have m5 := F.typeCall_set_1 (.ref l)
  refine wpAny_call (codeAny_of_tree ?_)
  show wpAny _ _ (callAny (.type "set") _) _ _ _
  refine wpAny_pure ⟨Code.quiet_builtin _ (by decide +kernel), codeAny_builtin F.entry_type_call ?_⟩
  rw [Around.under_plain (weight_type_call_type "set" [.ref l] []) rfl]
  repeat (any_goals (first | assumption | wp_step))
  refine codeAny_mono (code_set_led1 (.ref l) (E := E) (Q₁ := fun v z => v = .ref s.heap.objs.size ∧ z = { s with heap := s.heap.push (set0 w) }) ⟨rfl, rfl⟩) fun r z hr => ?_
  cases r with
  | error e => exact hr
  | ok fl =>
    cases fl with
    | ret obj =>
      obtain ⟨rfl, rfl⟩ := hr
      have at0 : (s.heap.push (set0 w)).get? s.heap.objs.size = some (set0 w) := Heap.get?_push_size _ rfl
      have ty0 : Shared.TypeIs { s with heap := s.heap.push (set0 w) } (.ref s.heap.objs.size) "set" := ⟨_, at0, rfl⟩
      have i1 := F.called_set.init.lookup
      have i2 := F.called_set.init.bind (.ref s.heap.objs.size)
      repeat (any_goals (first | assumption | wp_step))
      refine codeAny_mono (codeAny_call_builtin (R := wants (fun v z => v = .none ∧ SetEnd w s ns z) E) F.called_set.init.plain F.entry_set_init (check_set_init_1 ty0 ?_)) fun r2 z2 hr2 => ?_
      · obtain ⟨⟨oc, od, ot, os⟩, ho, hc, nl, hd⟩ := hl
        simp only at hc hd
        subst hc hd
        have ho1 : (s.heap.push (set0 w)).get? l = some { cls := .type "list", dict := od, data := .seq items nl, slots := os } := Heap.get?_push_of_some _ ho
        have q1 := F.sub_list_set
        have q2 := F.sub_list_frozenset
        have q3 : (Value.type "list" == Value.type "dict") = false := by decide
        have hl1 : (s.heap.push (set0 w)).IsList l items := ⟨_, ho1, rfl, nl, rfl⟩
        have ll : l < s.heap.objs.size := Heap.lt_size ho
        unfold Builtin.«set.__init__» noKeywords Builtin.Frozenset.updateFrom
        generalize hPI : pyIter = PI
        wp_walk
        subst hPI
        refine wpAny_pyIter_list hl1 (wpAny_bind (wpAny_runValue ?_))
        have n1 : l ≠ (s.heap.push (set0 w)).objs.size := Nat.ne_of_lt (Nat.lt_trans ll N)
        have n2 : s.heap.objs.size ∉ [(s.heap.push (set0 w)).objs.size, l] := fun z => by
          rcases List.mem_cons.mp z with z | z
          · exact Nat.ne_of_lt N z
          · exact Nat.ne_of_gt ll (List.mem_singleton.mp z)
        have h3 : A.in1.in1.in1.handled = none := by simp [hh]
        refine set_update_ints ((Walks.list h3 _ l n1 items).toS) s.heap.objs.size n2 ns len hb (fun i v hv => ?_) (items.size - 0) 0 _ (by omega) (Nat.zero_le _) ⟨⟨_, Heap.get?_push_size _ rfl, rfl, rfl⟩, hl1.push _⟩ ⟨0, Nat.le_refl 0, setR_new_at (Heap.get?_push_of_some _ at0)⟩ fun z c' hm hc' hS' => ?_
        · have hi : i < ns.length := by rw [← len]; exact (Array.getElem?_eq_some_iff.mp hv).1
          obtain ⟨t, e⟩ := hit.int_at i v (by rw [Array.getElem?_toList]; exact hv)
          rw [List.getD_eq_getElem?_getD, List.getElem?_eq_getElem hi] at e
          exact ⟨ns[i], t, List.getElem?_eq_getElem hi, e⟩
        · obtain ⟨h', g2, d', tk', os'⟩ := z
          cases (show g2 = s.gens from hm.gens)
          cases (show d' = s.drawn from hm.drawn)
          cases (show os' = s.os from hm.os)
          rw [len] at hc'
          refine wpAny_pure (wpAny_pure ⟨rfl, h', tk', c', rfl, hS', hc', fun b o e => ?_⟩)
          have hb0 : b < s.heap.objs.size := Heap.lt_size e
          refine hm.heap b o (fun z => ?_) (Heap.get?_push_of_some _ (Heap.get?_push_of_some _ e))
          rcases List.mem_cons.mp z with z | z
          · exact Nat.ne_of_lt hb0 z
          · exact Nat.ne_of_lt (Nat.lt_trans hb0 N) (List.mem_singleton.mp z)
      · cases r2 with
        | error e => exact hr2
        | ok fl2 =>
          cases fl2 with
          | ret r =>
            obtain ⟨rfl, hz⟩ := hr2
            repeat (any_goals (first | assumption | wp_step))
            exact fin _ hz
          | _ => exact hr2.elim
    | _ => exact hr.elim
end
def setIntsL (d : D) : Option (List Int) := match d with
  | .lst xs => if xs.length < 60 then mapO asInt xs else none
  | _ => none
def setIntsU (d : D) : Option (List Int) := match d with
  | .lst xs => if xs.length < 60 then mapO asInt xs else none
  | .tup xs => if xs.length < 60 then mapO asInt xs else none
  | _ => none
def eSortedSetL (f : F1) : F1 := fun σ S => (f σ S).bind fun d S1 => match setIntsL d with
  | some ns => .ok (.lst ((sset ns).map .int)) S1
  | none => .no
/-- of a tuple or a list -/
def eSortedSetU (f : F1) : F1 := fun σ S => (f σ S).bind fun d S1 => match setIntsU d with
  | some ns => .ok (.lst ((sset ns).map .int)) S1
  | none => .no
section
variable {Γ : Nat → Addr} {W : WX} {X : Cx} {a : Expr} {f : F1} {p p2 q pos : Pos}
theorem setIntsL_at {μ : Mp} {H : Hp} {S : Sto} (m : MR Γ μ S H) {d : D} {v : V} {ns : List Int} (r : VR Γ μ H d v) (h : setIntsL d = some ns) : ∃ l, v = .ref l ∧ SqL X.K H l (ns.map V.int) ∧ ns.length < 60 := by
  unfold setIntsL at h
  split at h
  · split at h
    · rename_i xs hl
      obtain ⟨l, vs, rfl, hq, rs⟩ := seqA_at X.K m r (xs := xs) rfl
      have e := ints_at rs h
      subst e
      exact ⟨l, rfl, hq, by rw [rs.len_ints] at hl; exact hl⟩
    · cases h
  · cases h
theorem s_sortedSetL (hc : X.calm = true) (hg : Gl X "sorted") (hm : X.mg "sorted" = none) (hg2 : Gl X "set") (hm2 : X.mg "set" = none) (ha : SE Γ X W a f) (na : starEach [a] X.env = (false, eval a X.env) :: starEach [] X.env := by rfl) :
    SE Γ X W (.Call (.Name "sorted" p) [.Call (.Name "set" p2) [a] [] q] [] pos) (eSortedSetL f) := by
  refine ⟨fun pins s σ' H Q I h => ?_⟩
  obtain ⟨μ, σ, S, a0, h⟩ := h
  refine Call_ (ld_blt I hg hm PyProof.Rows.boot_sorted (PyProof.Rows.callWith_builtin1 (PyProof.Rows.args_cons (Call_ (ld_blt I hg2 hm2 PyProof.Rows.boot_set (PyProof.Rows.callWith_type1 (PyProof.Rows.args_cons (thn (ha.run pins s σ' H (fun v1 H1 => ∃ l ns μ1 S1, v1 = .ref l ∧ SqL X.K H1 l (ns.map V.int) ∧ ns.length < 60 ∧ Step μ H μ1 H1 ∧ MR Γ μ1 S1 H1 ∧ KD Γ μ H Q (.lst ((sset ns).map .int)) S1) I (tev_of a0 h.of_bind fun d S1 μ1 v1 H1 h1 s1 a1 r1 => ?_)) fun v s1 hq => PyProof.Rows.args_nil ?_) na) na rfl))) rfl) rfl rfl))
  · split at h1
    · rename_i ns en
      obtain ⟨l, rfl, hl, hz⟩ := setIntsL_at (X := X) a1.mr r1 en
      exact ⟨l, ns, μ1, S1, rfl, hl, hz, s1, a1.mr, h1⟩
    · exact h1.elim
  · obtain ⟨v1, H1, I1, r1, l, ns, μ1, S1, rfl, hl, hz, st, m1, k1⟩ := hq
    cases r1
    obtain ⟨its, rv, pl, hsz⟩ := I1.list hl
    refine set_of_listI (I1.ok.hd hc) pl.isList (by simpa using rv.ints) (by unfold scanBound; omega) fun s2 z => PyProof.Rows.args_nil ?_
    obtain ⟨h', tk, c, rfl, R, hcn, hk⟩ := z
    have hn : H1 s1.heap.objs.size = none := I1.hok.fresh (Nat.le_refl _)
    have I2 : Inv X pins σ' (upd H1 s1.heap.objs.size (SetO X.w s1.heap.objs.size (fun j => decide (j ∈ ns)) c)) { s1 with heap := h', toks := tk } := I1.laid hk (Nat.le_refl _) (setO_new R)
    have s2 : Step μ1 H1 μ1 (upd H1 s1.heap.objs.size (SetO X.w s1.heap.objs.size (fun j => decide (j ∈ ns)) c)) := Step.new hn
    refine cr_sortedSet hc pins _ σ' _ [.ref s1.heap.objs.size] [.ref s1.heap.objs.size] Q I2 (.cons rfl .nil) ⟨_, _, c, rfl, upd_same, by omega, fun ns' p' hlt hmem hlen hp => ?_⟩
    have e : ns' = sset ns := lt_unique hlt (sset_lt ns) fun x => (hmem x).trans (by rw [decide_eq_true_iff]; exact mem_sset.symm)
    subst e
    exact KD.newL (KD.mono (st.trans s2) k1) (m1.new hn) (ints_of _) hp
theorem s_sortedSetU (hc : X.calm = true) (hg : Gl X "sorted") (hm : X.mg "sorted" = none) (hg2 : Gl X "set") (hm2 : X.mg "set" = none) (ha : SE Γ X W a f) (na : starEach [a] X.env = (false, eval a X.env) :: starEach [] X.env := by rfl) :
    SE Γ X W (.Call (.Name "sorted" p) [.Call (.Name "set" p2) [a] [] q] [] pos) (eSortedSetU f) := by
  refine s_alt (s_sortedSet hc hg hm hg2 hm2 ha na) (s_sortedSetL hc hg hm hg2 hm2 ha na) fun σ S => ?_
  unfold eSortedSetU eSortedSet eSortedSetL
  cases f σ S with
  | ex _ _ => exact .inl rfl
  | no => exact .inl rfl
  | ok d S1 => cases d <;> first | exact .inl rfl | exact .inr (.inl rfl)
end
end Ev
namespace Ev
open PySem PySem.Spec PyProof.Rows L2
/-! ### list.index, range by steps -/
/-- where the first one stands -/
def findD (y : D) : List D → Option Nat
  | [] => none
  | x :: r => if eqF x y = true then some 0 else (findD y r).map (· + 1)
theorem findD_at {y : D} : ∀ {xs : List D} {j : Nat}, findD y xs = some j → (∃ z, xs[j]? = some z ∧ eqF z y = true) ∧ ∀ (m : Nat) (z : D), m < j → xs[m]? = some z → eqF z y = false
  | [], _, h => by cases h
  | x :: r, j, h => by
    unfold findD at h
    by_cases e : eqF x y = true
    · rw [if_pos e] at h
      cases h
      exact ⟨⟨x, rfl, e⟩, fun m z hm => by omega⟩
    · rw [if_neg e] at h
      cases q : findD y r with
      | none => rw [q] at h; cases h
      | some i =>
        rw [q] at h
        cases h
        obtain ⟨⟨z, h1, h2⟩, h3⟩ := findD_at q
        refine ⟨⟨z, by simpa using h1, h2⟩, fun m z hm hz => ?_⟩
        cases m with
        | zero =>
          have : x = z := by simpa using hz
          rw [← this]
          simpa using e
        | succ m => exact h3 m z (Nat.lt_of_succ_lt_succ hm) (by simpa using hz)
def opIndex : OpM := fun d ds S => match ds with
  | [y] => match seqA d S with
    | some xs => if flatD y && xs.all flatD then match findD y xs with
        | some j => .ok (.int (j : Nat)) S
        | none => .no else .no
    | none => .no
  | _ => .no
theorem rd_index {Γ : Nat → Addr} {W : WX} {X : Cx} : RdM Γ W X.K (rIndex X.K) opIndex := by
  intro H Q x vs μ d ds S n rx rv m sat
  unfold opIndex at sat
  split at sat
  · rename_i y
    split at sat
    · rename_i xs e
      split at sat
      · rename_i hfl
        rw [Bool.and_eq_true] at hfl
        split at sat
        · rename_i j ej
          obtain ⟨w, rfl, ry⟩ := rv.one
          obtain ⟨p, us, rfl, hq, rs⟩ := seqA_at X.K m rx e
          obtain ⟨⟨z, h1, h2⟩, h3⟩ := findD_at ej
          obtain ⟨v, hv, rz⟩ := rs.get h1
          have fz : ∀ {i : Nat} {z : D}, xs[i]? = some z → flatD z = true := fun h => List.all_eq_true.mp hfl.2 _ (List.mem_of_getElem? h)
          refine ⟨p, us, w, j, v, rfl, rfl, hq, flat_at ry hfl.1, all_flat rs hfl.2, hv, ?_, fun i z' hi hz' => ?_, KD.here sat m (.int _)⟩
          · rw [eqF_at rz ry (fz h1) hfl.1]
            exact h2
          · obtain ⟨d', hd', rd'⟩ := rs.at_back hz'
            rw [eqF_at rd' ry (fz hd') hfl.1]
            exact h3 i d' hi hd'
        · exact sat.elim
      · exact sat.elim
    · exact sat.elim
  · exact sat.elim
def iRange3 (g : FA) : FI := fun σ S => (g σ S).bind fun ds S1 => match ds with
  | [.int i, .int j, .int c] => if c ≠ 0 ∧ c.natAbs < 1073741824 ∧ Builtin.Range.small i j c = true ∧ 0 ≤ Builtin.Range.rangeSize i j c then .ok ((List.range (Builtin.Range.rangeSize i j c).toNat).map fun (k : Nat) => D.int (i + (k : Int) * c)) S1 else .no
  | _ => .no
theorem i_range3 {Γ : Nat → Addr} {W : WX} {X : Cx} {a b c tg : Expr} {g : FA} {p pos : Pos} (hg : Gl X "range") (hm : X.mg "range" = none) (ha : SA Γ X W [a, b, c] g)
    (hs : starEach [a, b, c] X.env = (false, eval a X.env) :: starEach [b, c] X.env := by rfl) (hpl : (backTo pos (starEach [b, c] X.env)).any (·.1) = false := by rfl) : SI Γ X W tg (.Call (.Name "range" p) [a, b, c] [] pos) (iRange3 g) := by
  refine PI.imp (pi_range3 hg hm ha hs hpl) fun σ' H R h => ?_
  obtain ⟨μ, σ, S, a0, h⟩ := h
  refine tav_of a0 h.of_bind fun ds S1 μ1 vs H1 h1 s1 a1 r1 => ?_
  split at h1
  · rename_i i j k
    split at h1
    · rename_i z
      obtain ⟨z1, z2, z3, z4⟩ := z
      cases r1 with
      | cons r r1 =>
        cases r1 with
        | cons r2 r1 =>
          cases r1 with
          | cons r3 r1 =>
            cases r1
            cases r
            cases r2
            cases r3
            exact ⟨i, j, k, (Builtin.Range.rangeSize i j k).toNat, rfl, ⟨z1, z2, z3, by omega⟩, h1 μ1 H1 _ s1 a1.mr (iw_fn walk_rangeC fun i μ2 H2 => .int _)⟩
    · exact h1.elim
  · exact h1.elim
end Ev
/-! ### own exceptions: raise, try -/
namespace Ev
open PySem PySem.Spec PyProof.Rows L2
/-- raise X('..') -/
def sRaise (g : Nat) : FS := fun _ S => .ex ⟨.gl g, []⟩ S
/-- try .. except X, without a name; the slots are forgotten -/
def sTry (m : D → Option Bool) (fb fh : FS) : FS := fun σ S => match fb σ S with
  | .ok o S1 => .ok o S1
  | .ex x S1 => match m x.cls with
    | some true => fh (σ.map fun _ => none) S1
    | some false => .ex x S1
    | none => .no
  | .no => .no
/-- the class of an exception, as the machine has it -/
def ClsR (Γ : Nat → Addr) (d : D) (cls : Value) : Prop := match d with | .gl g => cls = .ref (Γ g) | .ty n => cls = .type n | _ => False
section
variable {Γ : Nat → Addr} {X : Cx} {W : WX}
theorem s_raise {e : Expr} {pos : Pos} {g : Nat} (hc : X.calm = true) (tk : Takes X W) (he : PMk X e (fun _ H Q => Q (.ref (Γ g)) none H)) : SS Γ X W (.Raise (some e) none pos) (sRaise g) := by
  refine PS.imp (ps_raise hc tk he) fun E σ' H h => ?_
  obtain ⟨μ, σ, S, a, sat⟩ := h
  have sat : KE Γ W X.N.length μ H ⟨.gl g, []⟩ S := sat
  exact sat μ H (.ref (Γ g)) none σ' Step.refl a.mr ⟨rfl, .inl rfl⟩ a.sr.kk
/-- an own error of the text -/
structure OwnX (K : PySem.W.Frag) (a : Addr) : Prop where
  q : PySem.W.excIn K a [.type "ValueError", .type "Exception", .type "BaseException", .type "object"] "ValueError.__new__" = true
  k : PySem.W.keepIn K (.ref a) = true
  b : PySem.W.subIn K (.ref a) (.type "BaseException") = some true
  t : PySem.W.typeIn K (.ref a) = some (.type "type")
theorem mk_own {x m : Str} {j g : Nat} {p p2 pos : Pos} (h : OwnX X.K (Γ g)) (gC : X.mg x = some (.ref (Γ g))) (hg : Gl X x) (hdb : (x == ("__debug__" : Str)) = false := by decide) : PMk X (.Call (.Name x p) [.Constant (.str m) j p2] [] pos) (fun _ H Q => Q (.ref (Γ g)) none H) :=
  pmk_own PySem.F.excBase_ValueError h.q gC h.k (raises_own h.b h.t) hg hdb
theorem s_try {x : Str} {c : Nat} {body suite : List Stmt} {b₀ : Stmt} {np pos pos' : Pos} {m : D → Option Bool} {fb fh : FS} (hs : X.stack = X.env :: X.outer) (hf : X.env.frame = some X.env.locals) (hc : Names X x (.ref (Γ c))) (tk : Takes X W)
    (hm : ∀ (d : D) (cls : Value) (b : Bool), ClsR Γ d cls → m d = some b → PySem.W.exmOne X.K cls (.ref (Γ c)) = some b)
    (hb : ∀ (W' : WX) (pn : List (Addr × Obj)) (xe : Value → Shared → Prop), Takes (X.tr pn xe) W' → PassesOwn (model X.prog X.w) X.A X.env xe → SB Γ (X.tr pn xe) W' body fb)
    (hsu : ∀ (a : Addr) (oe : Obj) (pn : List (Addr × Obj)), SB Γ (X.suite a ((a, oe) :: pn)) W (b₀ :: suite) fh) :
    SS Γ X W (.Try body [.ExceptHandler (some (.Name x np)) none (b₀ :: suite) pos'] [] [] pos) (sTry m fb fh) := by
  refine PS.imp (ps_try_only hs hf hc tk (tb := fun W' => TSv Γ W' X.N.length fb) (ts := fun _ _ _ => TSv Γ W X.N.length fh) hb fun a oe cls d pn _ _ => hsu a oe pn) fun E σ' H h => ?_
  obtain ⟨μ, σ, S, a, sat⟩ := h
  refine ⟨μ, σ, S, a, ?_⟩
  unfold sTry at sat
  cases hr : fb σ S with
  | ok o S1 =>
    rw [hr] at sat
    exact sat
  | no =>
    rw [hr] at sat
    exact sat
  | ex x S1 =>
    rw [hr] at sat
    show KE Γ _ X.N.length μ H x S1
    intro μ' H' cls d σ1 st mr xr hl
    cases hx : m x.cls with
    | none =>
      simp only [hx] at sat
      exact sat.elim
    | some b =>
      refine ⟨b, hm _ _ _ xr.1 hx, fun hb1 a1 ha1 => ?_, fun hb1 => ?_⟩
      · subst hb1
        simp only [hx] at sat
        refine ⟨μ', σ.map fun _ => none, S1, ⟨⟨?_, hl, fun i d hd => ?_⟩, mr⟩, ?_⟩
        · rw [List.length_map, hl, ← a.sr.len, a.sr.kk]
        · rw [List.getElem?_map] at hd
          cases hq : σ[i]? with
          | none => rw [hq] at hd; cases hd
          | some y => rw [hq] at hd; cases hd
        · exact sat.mono (fun _ _ => KO.mono st) fun _ _ => KE.mono st
      · subst hb1
        simp only [hx] at sat
        have sat : KE Γ W X.N.length μ H x S1 := sat
        exact sat μ' H' cls d σ1 st mr xr hl
end
end Ev
/-! ### two-fold comprehensions -/
namespace Ev
open PySem PySem.Spec PyProof.Rows L2
/-- the outer turns: their answers behind one another -/
def lcGG (turn : D → Sto → Res (List D)) : List D → Sto → Res (List D)
  | [], S => .ok [] S
  | x :: r, S => (turn x S).bind fun o S1 => (lcGG turn r S1).bind fun ys S2 => .ok (o ++ ys) S2
def lcTurn2 (p : Pat) (ft : FT) (fi1 : FI) (p1 : Pat) (ft1 : FT) (fe : F1) (vs1 : List Nat) (σ : Sg) : D → Sto → Res (List D) := fun d S => match patD p d σ with
  | some σ1 => (ft σ1 S).bind fun b S1 => if b = true then (fi1 σ1 S1).bind fun items S2 => lcG (lcTurn p1 ft1 fe (wipeD σ1 vs1)) items S2 else .ok [] S1
  | none => .no
def eLc2 (fi : FI) (p : Pat) (ft : FT) (fi1 : FI) (p1 : Pat) (ft1 : FT) (fe : F1) (own vs1 : List Nat) : F1 := fun σ S => (fi σ S).bind fun items S1 => (lcGG (lcTurn2 p ft fi1 p1 ft1 fe vs1 (wipeD σ own)) items S1).nox.bind fun ys S2 => if ys.length < line then .ok (.lst ys) S2 else .no
theorem it_gen {J : It} {n : Nat} {G : Hp → Prop} {Y : Nat → Hp → V → Hp → Prop} (w : Walk J n G Y) (Pv : Nat → Hp → Prop) {H0 : Hp} {Qd : Hp → Prop} {Body : V → Hp → (Hp → Prop) → Prop} (h0 : Pv 0 H0) (hG : ∀ i H, i ≤ n → Pv i H → G H)
    (hs : ∀ i x H H', i < n → Pv i H → Y i H x H' → Body x H' (Pv (i + 1))) (hd : ∀ H, Pv n H → Qd H) :
    ∃ W : Nat → Nat → Hp → Prop, (∃ m, W 0 m H0) ∧ ∀ i m H, W i m H →
      (J.stop i H ∧ Qd H) ∨ (J.go i H ∧ ∃ Nx : Hp → Prop, (∀ H', Nx H' → ∃ m', m' < m ∧ W (i + 1) m' H') ∧ ∀ x H', J.yld i H x H' → Body x H' Nx) := by
  refine ⟨fun i m H => m = n - i ∧ i ≤ n ∧ Pv i H, ⟨n, by simp, Nat.zero_le _, h0⟩, ?_⟩
  rintro i m H ⟨rfl, hi, p⟩
  have q := hG i H hi p
  by_cases hlt : i < n
  · refine .inr ⟨w.goes i H hlt q, Pv (i + 1), fun H' p' => ⟨n - (i + 1), by omega, rfl, hlt, p'⟩, fun x H' y => hs i x H H' hlt p (w.yields i H x H' hlt q y)⟩
  · have e : i = n := by omega
    subst e
    exact .inl ⟨w.stops H q, hd H p⟩
section
variable {Γ : Nat → Addr} {W : WX} {X : Cx} {k : Nat} {μ : Mp} {H : Hp} {σ : Sg} {S : Sto} {σ' : L2.St} {p p1 : Pat} {ft ft1 : FT} {fi fi1 : FI} {fe : F1}
/-- the new list, hidden, and what is built of it -/
structure LcS (Γ : Nat → Addr) (μ : Mp) (H : Hp) (D0 : Addr) (ν : Mp) (Hi : Hp) (done : List D) : Prop where
  st : Step μ H ν Hi
  n : D0 ∉ ν
  ac : ∃ acc, Hi D0 = some (.lst acc) ∧ VRs Γ (ν.hide D0) Hi done acc
theorem LcS.step {D0 : Addr} {ν μ5 : Mp} {Hi H5 : Hp} {S5 : Sto} {done : List D} (hD : H D0 = none) (h : LcS Γ μ H D0 ν Hi done) (s : Step (ν.hide D0) Hi μ5 H5) (m5 : MR Γ μ5 S5 H5) : ∃ ν5 : Mp, μ5 = ν5.hide D0 ∧ LcS Γ μ H D0 ν5 H5 done := by
  obtain ⟨si, nν, acc, hacc, rdn⟩ := h
  have rdn := rdn.mono s
  obtain ⟨c5, h5⟩ := μ5
  have eh : h5 = D0 :: ν.hid := s.hid
  subst eh
  have k5 : H5 D0 = some (.lst acc) := s.hkeep D0 _ List.mem_cons_self hacc
  have n5 : D0 ∉ (⟨c5, ν.hid⟩ : Mp) := fun z => by
    rcases z with z | z
    · exact (m5.hd D0 List.mem_cons_self).2 z
    · exact nν (.inr z)
  refine ⟨⟨c5, ν.hid⟩, rfl, si.trans ⟨s.pre, rfl, fun q u eq nq => ?_, fun q u hq eq => s.hkeep q u (List.mem_cons_of_mem _ hq) eq⟩, n5, acc, k5, rdn⟩
  by_cases ez : q = D0
  · subst ez
    rw [hacc] at eq
    cases eq
    exact ⟨n5, .inl k5⟩
  · obtain ⟨n1, e1⟩ := s.kp q u eq (not_hide nq ez)
    exact ⟨not_unhide n1, e1⟩
theorem LcS.put {D0 : Addr} {ν : Mp} {Hi : Hp} {done : List D} {y : D} {y' : V} (hD : H D0 = none) (nD : D0 ∉ μ) (h : LcS Γ μ H D0 ν Hi done) (r : VR Γ (ν.hide D0) Hi y y') :
    ∃ acc, Hi D0 = some (.lst acc) ∧ acc.length = done.length ∧ LcS Γ μ H D0 ν (upd Hi D0 (.lst (acc ++ [y']))) (done ++ [y]) ∧ Seen Γ (ν.hide D0) Hi (ν.hide D0) (upd Hi D0 (.lst (acc ++ [y']))) := by
  obtain ⟨st, n6, acc, k6, rdn⟩ := h
  have hh : D0 ∈ (ν.hide D0).hid := List.mem_cons_self
  have hsw : Seen Γ (ν.hide D0) Hi (ν.hide D0) (upd Hi D0 (.lst (acc ++ [y']))) := Seen.write (.inr hh)
  refine ⟨acc, k6, rdn.length.symm, ⟨⟨st.pre, st.hid, fun q u eq nq => ?_, fun q u hq eq => ?_⟩, n6, _, upd_same, (rdn.append (.cons r .nil)).seen hsw⟩, hsw⟩
  · obtain ⟨n1, e1⟩ := st.kp q u eq nq
    exact ⟨n1, by rw [upd_ne (ne_of_none eq hD)]; exact e1⟩
  · rw [upd_ne (fun z => nD (.inr (by rw [← z]; exact hq)))]
    exact st.hkeep q u hq eq
theorem At.seenW {ν : Mp} {D0 : Addr} {Hi : Hp} {o : HO} (a : At Γ k (ν.hide D0) Hi σ S σ') (hsw : Seen Γ (ν.hide D0) Hi (ν.hide D0) (upd Hi D0 o)) (nt : NT o := by intro _ z; cases z) : At Γ k (ν.hide D0) (upd Hi D0 o) σ S σ' :=
  ⟨⟨a.sr.len, a.sr.kk, fun j dd e1 => let ⟨v, e2, r⟩ := a.sr.at_ j dd e1; ⟨v, e2, r.seen hsw⟩⟩, a.mr.writeH List.mem_cons_self nt⟩
/-- the inner loop -/
theorem lc_in (K : PySem.W.Frag) {vs1 : List Nat} {items ys done : List D} {S2 : Sto} {J : It} {D0 : Addr} {ν : Mp} {Hi : Hp} {Nx : Hp → Prop} {σo : Sg} {σo' : L2.St} (hp : ∀ i ∈ p1.slots, i ∈ vs1) (hD : H D0 = none) (nD : D0 ∉ μ) (b : LcS Γ μ H D0 ν Hi done) (a : At Γ k (ν.hide D0) Hi σ S σ') (ao : At Γ k (ν.hide D0) Hi σo S σo') (iw : IW Γ (ν.hide D0) Hi items J) (hl : done.length + ys.length < line)
    (e : lcG (lcTurn p1 ft1 fe (wipeD σ vs1)) items S = .ok ys S2) (fin : ∀ (ν' : Mp) H', Seen Γ (ν.hide D0) Hi (ν'.hide D0) H' → LcS Γ μ H D0 ν' H' (done ++ ys) → At Γ k (ν'.hide D0) H' σo S2 σo' → Nx H') :
    ∃ W1 : Nat → Nat → Hp → Prop, (∃ m, W1 0 m Hi) ∧ ∀ j m H, W1 j m H →
      (J.stop j H ∧ Nx H) ∨ (J.go j H ∧ ∃ Nx1 : Hp → Prop, (∀ H', Nx1 H' → ∃ m', m' < m ∧ W1 (j + 1) m' H') ∧ ∀ x H', J.yld j H x H' → gPat K p1 x (L2.wipe σ' vs1) H' fun σ3 H5 => L2.wipe σ3 vs1 = L2.wipe σ' vs1 ∧ TTv Γ W0 k ft1 σ3 H5 fun b H6 =>
        if b = true then TEv Γ W0 k fe σ3 H6 fun y H7 => ∃ acc, H7 D0 = some (.lst acc) ∧ acc.length < sizeLine ∧ Nx1 (upd H7 D0 (.lst (acc ++ [y]))) else Nx1 H6) := by
  obtain ⟨G, Y, w, gs, yl⟩ := id iw
  refine it_gen w (fun j Hj => ∃ (νj : Mp) (Sj : Sto) (dj zs : List D), Seen Γ (ν.hide D0) Hi (νj.hide D0) Hj ∧ LcS Γ μ H D0 νj Hj (done ++ dj) ∧ At Γ k (νj.hide D0) Hj (wipeD σ vs1) Sj (L2.wipe σ' vs1) ∧ At Γ k (νj.hide D0) Hj σo Sj σo' ∧ lcG (lcTurn p1 ft1 fe (wipeD σ vs1)) (items.drop j) Sj = .ok zs S2 ∧ ys = dj ++ zs) ?_ ?_ ?_ ?_
  · exact ⟨ν, S, [], ys, Seen.refl, by rw [List.append_nil]; exact b, a.wipe vs1, ao, by rw [List.drop_zero]; exact e, rfl⟩
  · rintro j Hj _ ⟨νj, Sj, dj, zs, sj, _⟩
    exact gs _ Hj sj
  · rintro j x' Hj H2 hj ⟨νj, Sj, dj, zs, sj, bj, aj, aoj, ez, ey⟩ y
    obtain ⟨s2, m2, d, ed, rd⟩ := yl j (νj.hide D0) Hj Sj x' H2 sj aj.mr y
    have hlt : j < items.length := (List.getElem?_eq_some_iff.mp ed).1
    have ed' : items[j] = d := by
      rw [List.getElem?_eq_getElem hlt] at ed
      exact Option.some.inj ed
    rw [List.drop_eq_getElem_cons hlt, ed'] at ez
    obtain ⟨o, S3, ws, et, er, ezz⟩ := lcG_cons ez
    unfold lcTurn at et
    cases ep : patD p1 d (wipeD σ vs1) with
    | none => rw [ep] at et; cases et
    | some σ1 =>
      rw [ep] at et
      have et : ((ft1 σ1 Sj).bind fun b S1 => if b = true then (fe σ1 S1).bind fun y S2 => Res.ok (some y) S2 else .ok none S1) = .ok o S3 := et
      refine gPat_at K (aj.mono s2 m2) rd ep hp fun σ1' a1 hw => ⟨hw.trans (wipe_wipe vs1 σ'), ?_⟩
      cases eb : ft1 σ1 Sj with
      | ex _ _ => rw [eb] at et; cases et
      | no => rw [eb] at et; cases et
      | ok b S4 =>
        rw [eb] at et
        have et : (if b = true then (fe σ1 S4).bind fun y S2 => Res.ok (some y) S2 else .ok none S4) = .ok o S3 := et
        refine ⟨_, σ1, Sj, a1, sat_ok eb ?_⟩
        intro μ5 H5 s5 m5
        have s25 := s2.trans s5
        cases b with
        | false =>
          cases et
          refine iteF ?_
          obtain ⟨ν5, rfl, b5⟩ := bj.step hD s25 m5
          exact ⟨ν5, S3, dj, ws, sj.trans s25.seen, b5, aj.mono s25 m5, aoj.mono s25 m5, er, by rw [ey, ezz]; rfl⟩
        | true =>
          refine iteT ?_
          have et : ((fe σ1 S4).bind fun y S2 => Res.ok (some y) S2) = .ok o S3 := et
          cases ee : fe σ1 S4 with
          | ex _ _ => rw [ee] at et; cases et
          | no => rw [ee] at et; cases et
          | ok yd S5 =>
            rw [ee] at et
            cases et
            refine ⟨μ5, σ1, S4, a1.mono s5 m5, sat_ok ee ?_⟩
            intro μ6 y' H6 s6 m6 ry
            have s26 := s25.trans s6
            obtain ⟨ν6, rfl, b6⟩ := bj.step hD s26 m6
            obtain ⟨acc, k6, hlen, b7, hsw⟩ := b6.put hD nD ry
            refine ⟨acc, k6, ?_, ν6, S3, dj ++ [yd], ws, (sj.trans s26.seen).trans hsw, by rw [← List.append_assoc]; exact b7, (aj.mono s26 m6).seenW hsw, (aoj.mono s26 m6).seenW hsw, er, by rw [ey, ezz]; simp [consO]⟩
            refine line_lt ?_
            rw [hlen, List.length_append]
            rw [ey, ezz, List.length_append] at hl
            simp only [consO, List.length_cons] at hl
            omega
  · rintro Hj ⟨νj, Sj, dj, zs, sj, bj, aj, aoj, ez, ey⟩
    rw [List.drop_length] at ez
    cases ez
    rw [List.append_nil] at ey
    subst ey
    exact fin νj Hj sj bj aoj
theorem lcGG_cons {turn : D → Sto → Res (List D)} {x : D} {r : List D} {ys : List D} {S' : Sto} (h : lcGG turn (x :: r) S = .ok ys S') :
    ∃ o S1 zs, turn x S = .ok o S1 ∧ lcGG turn r S1 = .ok zs S' ∧ ys = o ++ zs := by
  have h : ((turn x S).bind fun o S1 => (lcGG turn r S1).bind fun ys S2 => .ok (o ++ ys) S2) = .ok ys S' := h
  cases e : turn x S with
  | ok o S1 =>
    rw [e] at h
    have h : ((lcGG turn r S1).bind fun ys S2 => Res.ok (o ++ ys) S2) = .ok ys S' := h
    cases e2 : lcGG turn r S1 with
    | ok zs S2 =>
      rw [e2] at h
      cases h
      exact ⟨o, S1, zs, rfl, e2, rfl⟩
    | ex _ _ => rw [e2] at h; cases h
    | no => rw [e2] at h; cases h
  | ex _ _ => rw [e] at h; cases h
  | no => rw [e] at h; cases h
theorem lc2_run (K : PySem.W.Frag) {vs vs1 : List Nat} {items ys : List D} {S2 : Sto} {J : It} {D0 : Addr} {Qd : Hp → Prop} (hp : ∀ i ∈ p.slots, i ∈ vs) (hp1 : ∀ i ∈ p1.slots, i ∈ vs1) (a : At Γ k μ H σ S σ') (iw : IW Γ μ H items J) (hD : H D0 = none) (hl : ys.length < line)
    (e : lcGG (lcTurn2 p ft fi1 p1 ft1 fe vs1 (wipeD σ vs)) items S = .ok ys S2) (fin : ∀ (ν : Mp) H' acc, Step μ H ν H' → MR Γ (ν.hide D0) S2 H' → D0 ∉ ν → H' D0 = some (.lst acc) → VRs Γ (ν.hide D0) H' ys acc → Qd H') :
    ∃ W1 : Nat → Nat → Hp → Prop, (∃ m, W1 0 m (upd H D0 (.lst []))) ∧ ∀ i m H, W1 i m H →
      (J.stop i H ∧ Qd H) ∨ (J.go i H ∧ ∃ Nx : Hp → Prop, (∀ H', Nx H' → ∃ m', m' < m ∧ W1 (i + 1) m' H') ∧ ∀ x H', J.yld i H x H' → gPat K p x (L2.wipe σ' vs) H' fun σ2 H2 => L2.wipe σ2 vs = L2.wipe σ' vs ∧ TTv Γ W0 k ft σ2 H2 fun b H3 =>
        if b = true then TIv Γ W0 k fi1 σ2 H3 fun J1 H4 => ∃ W1 : Nat → Nat → Hp → Prop, (∃ m, W1 0 m H4) ∧ ∀ j k' H, W1 j k' H →
          (J1.stop j H ∧ Nx H) ∨ (J1.go j H ∧ ∃ Nx1 : Hp → Prop, (∀ H', Nx1 H' → ∃ k'', k'' < k' ∧ W1 (j + 1) k'' H') ∧ ∀ x H', J1.yld j H x H' → gPat K p1 x (L2.wipe σ2 vs1) H' fun σ3 H5 => L2.wipe σ3 vs1 = L2.wipe σ2 vs1 ∧ TTv Γ W0 k ft1 σ3 H5 fun b H6 =>
            if b = true then TEv Γ W0 k fe σ3 H6 fun y H7 => ∃ acc, H7 D0 = some (.lst acc) ∧ acc.length < sizeLine ∧ Nx1 (upd H7 D0 (.lst (acc ++ [y]))) else Nx1 H6)
        else Nx H3) := by
  obtain ⟨G, Y, w, gs, yl⟩ := id iw
  have nD : D0 ∉ μ := a.mr.fresh hD
  refine it_gen w (fun i Hi => ∃ (ν : Mp) (Si : Sto) (done zs : List D), LcS Γ μ H D0 ν Hi done ∧ At Γ k (ν.hide D0) Hi (wipeD σ vs) Si (L2.wipe σ' vs) ∧ lcGG (lcTurn2 p ft fi1 p1 ft1 fe vs1 (wipeD σ vs)) (items.drop i) Si = .ok zs S2 ∧ ys = done ++ zs) ?_ ?_ ?_ ?_
  · exact ⟨μ, S, [], ys, ⟨Step.new hD, nD, [], upd_same, .nil⟩, (a.wipe vs).hide hD, by rw [List.drop_zero]; exact e, rfl⟩
  · rintro i Hi _ ⟨ν, Si, done, zs, b, _⟩
    exact gs ν Hi b.st.seen
  · rintro i x' Hi H2 hi ⟨ν, Si, done, zs, b, ai, ez, ey⟩ y
    have hs : Seen Γ μ H (ν.hide D0) Hi := ⟨b.st.pre, fun q u e n => by
      obtain ⟨n1, e1⟩ := b.st.kp q u e n
      exact ⟨not_hide n1 (ne_of_none e hD), e1⟩⟩
    obtain ⟨s2, m2, d, ed, rd⟩ := yl i (ν.hide D0) Hi Si x' H2 hs ai.mr y
    have hlt : i < items.length := (List.getElem?_eq_some_iff.mp ed).1
    have ed' : items[i] = d := by
      rw [List.getElem?_eq_getElem hlt] at ed
      exact Option.some.inj ed
    rw [List.drop_eq_getElem_cons hlt, ed'] at ez
    obtain ⟨o, S3, ws, et, er, ezz⟩ := lcGG_cons ez
    unfold lcTurn2 at et
    cases ep : patD p d (wipeD σ vs) with
    | none => rw [ep] at et; cases et
    | some σ1 =>
      rw [ep] at et
      have et : ((ft σ1 Si).bind fun b S1 => if b = true then (fi1 σ1 S1).bind fun items S2 => lcG (lcTurn p1 ft1 fe (wipeD σ1 vs1)) items S2 else .ok [] S1) = .ok o S3 := et
      refine gPat_at K (ai.mono s2 m2) rd ep hp fun σ1' a1 hw => ⟨hw.trans (wipe_wipe vs σ'), ?_⟩
      cases eb : ft σ1 Si with
      | ex _ _ => rw [eb] at et; cases et
      | no => rw [eb] at et; cases et
      | ok bb S4 =>
        rw [eb] at et
        have et : (if bb = true then (fi1 σ1 S4).bind fun items S2 => lcG (lcTurn p1 ft1 fe (wipeD σ1 vs1)) items S2 else .ok [] S4) = .ok o S3 := et
        refine ⟨_, σ1, Si, a1, sat_ok eb ?_⟩
        intro μ5 H5 s5 m5
        have s25 := s2.trans s5
        cases bb with
        | false =>
          cases et
          refine iteF ?_
          obtain ⟨ν5, rfl, b5⟩ := b.step hD s25 m5
          exact ⟨ν5, S3, done, ws, b5, ai.mono s25 m5, er, by rw [ey, ezz]; rfl⟩
        | true =>
          refine iteT ?_
          have et : ((fi1 σ1 S4).bind fun items S2 => lcG (lcTurn p1 ft1 fe (wipeD σ1 vs1)) items S2) = .ok o S3 := et
          cases ee : fi1 σ1 S4 with
          | ex _ _ => rw [ee] at et; cases et
          | no => rw [ee] at et; cases et
          | ok items1 S5 =>
            rw [ee] at et
            have et : lcG (lcTurn p1 ft1 fe (wipeD σ1 vs1)) items1 S5 = .ok o S3 := et
            refine ⟨μ5, σ1, S4, a1.mono s5 m5, sat_ok ee ?_⟩
            intro μ6 H6 J1 s6 m6 iw1
            have s26 := s25.trans s6
            obtain ⟨ν6, rfl, b6⟩ := b.step hD s26 m6
            refine lc_in K hp1 hD nD b6 ((a1.mono s5 m5).mono s6 m6) (ai.mono s26 m6) iw1 ?_ et fun ν' H' sn b' ao' => ?_
            · rw [ey, ezz, List.length_append, List.length_append] at hl
              omega
            · exact ⟨ν', S3, done ++ o, ws, b', ao', er, by rw [ey, ezz, List.append_assoc]⟩
  · rintro Hi ⟨ν, Si, done, zs, b, ai, ez, ey⟩
    rw [List.drop_length] at ez
    cases ez
    rw [List.append_nil] at ey
    subst ey
    obtain ⟨acc, k1, r1⟩ := b.ac
    exact fin ν Hi acc b.st ai.mr b.n k1 r1
end
section
variable {Γ : Nat → Addr} {W : WX} {X : Cx} {elt tg iter tg1 iter1 : Expr} {ifs ifs1 : List Expr} {scope : Scope} {own : List (Str × Nat)} {vs1 : List Nat} {pos : Pos} {fi fi1 : FI} {p p1 : Pat} {ft ft1 : FT} {fe : F1}
/-- [elt for target in iter if .. for target in iter if ..] -/
theorem s_lc2 (hc : X.calm = true) (hN : X.N.Nodup) (hi : SI Γ X W tg iter fi) (ok : BlkOk X.N X.env.scope scope own) (hv : ∀ i ∈ vs1, i ∈ own.map (·.2)) (hp : ∀ i ∈ p.slots, i ∈ own.map (·.2)) (hp1 : ∀ i ∈ p1.slots, i ∈ vs1)
    (hg : ∀ (s : Shared) (H : Hp) (C : Addr) (cl : List (Str × Addr)) (fp : List Addr), PG (X.blk s H scope (compEnvC scope cl C X.env) fp) tg (gPat X.K p))
    (ht : ∀ (s : Shared) (H : Hp) (C : Addr) (cl : List (Str × Addr)) (fp : List Addr), STs Γ (X.blk s H scope (compEnvC scope cl C X.env) fp) W0 ifs ft)
    (hi1 : ∀ (s : Shared) (H : Hp) (C : Addr) (cl : List (Str × Addr)) (fp : List Addr), SI Γ (X.blk s H scope (compEnvC scope cl C X.env) fp) W0 tg1 iter1 fi1)
    (hg1 : ∀ (s : Shared) (H : Hp) (C : Addr) (cl : List (Str × Addr)) (fp : List Addr), PG (X.blk s H scope (compEnvC scope cl C X.env) fp) tg1 (gPat X.K p1))
    (ht1 : ∀ (s : Shared) (H : Hp) (C : Addr) (cl : List (Str × Addr)) (fp : List Addr), STs Γ (X.blk s H scope (compEnvC scope cl C X.env) fp) W0 ifs1 ft1)
    (he : ∀ (s : Shared) (H : Hp) (C : Addr) (cl : List (Str × Addr)) (fp : List Addr), SE Γ (X.blk s H scope (compEnvC scope cl C X.env) fp) W0 elt fe) (hs : ∀ x, foldedSetIterable iter X.env x = pure x := by intro _; rfl) (hs1 : ∀ env x, foldedSetIterable iter1 env x = pure x := by intro _ _; rfl) :
    SE Γ X W (.ListComp elt [⟨tg, iter, ifs, 0⟩, ⟨tg1, iter1, ifs1, 0⟩] scope pos) (eLc2 fi p ft fi1 p1 ft1 fe (own.map (·.2)) vs1) := by
  refine PE.imp (pe_lc2 (tt := TTv Γ W0 X.N.length ft) (tt1 := TTv Γ W0 X.N.length ft1) (te := TEv Γ W0 X.N.length fe) (wi1 := TIv Γ W0 X.N.length fi1) hc hN hi ok hv hg (fun s H C cl fp => ht s H C cl fp) (fun s H C cl fp => hi1 s H C cl fp) hg1 (fun s H C cl fp => ht1 s H C cl fp) (fun s H C cl fp => he s H C cl fp) hs hs1) fun σ' H Q h => ?_
  obtain ⟨μ, σ, S, a, h⟩ := h
  refine ⟨μ, σ, S, a, h.of_bind.mono (fun items S1 h1 => ?_) fun _ _ z => z⟩
  intro μ1 H1 J s1 m1 iw D0 hD
  cases e : lcGG (lcTurn2 p ft fi1 p1 ft1 fe vs1 (wipeD σ (own.map (·.2)))) items S1 with
  | ex _ _ => rw [e] at h1; exact h1.elim
  | no => rw [e] at h1; exact h1.elim
  | ok ys S2 =>
    rw [e] at h1
    have h1 : Res.Sat (if ys.length < line then Res.ok (D.lst ys) S2 else .no) _ _ := h1
    split at h1
    · rename_i hl
      refine lc2_run X.K hp hp1 (a.mono s1 m1) iw hD hl e fun μ' H' acc s' m' n' e' r' => ?_
      exact h1 μ' _ H' (s1.trans s') m'.show (.lst n' e' (r'.seen Seen.unhide))
    · exact h1.elim
end
end Ev
/-! ### comprehensions with any target -/
namespace Ev
open PySem PySem.Spec PyProof.Rows L2
abbrev PF := D → Sg → Option Sg
/-- a target of the machine's that does what a function says, and touches but its own slots -/
def TgOk (Γ : Nat → Addr) (k : Nat) (g : TG) (pf : PF) (vs : List Nat) : Prop := ∀ (μ : Mp) (H : Hp) (σ σ1 : Sg) (S : Sto) (σ' : L2.St) (d : D) (v : V) (Q : L2.St → Hp → Prop), At Γ k μ H σ S σ' → VR Γ μ H d v → pf d σ = some σ1 →
  (∀ σ1', At Γ k μ H σ1 S σ1' → L2.wipe σ1' vs = L2.wipe σ' vs → Q σ1' H) → g v σ' H Q
/-- (a, b, ..), c -/
def patN (is : List Nat) (j : Nat) : PF := fun d σ => match d with
  | .tup [.tup xs, y] => if xs.length = is.length then some ((setsD σ is xs).set j (some y)) else none
  | _ => none
def lcTurnT (pf : PF) (ft : FT) (fe : F1) (σ : Sg) : D → Sto → Res (Option D) := fun d S => match pf d σ with
  | some σ1 => (ft σ1 S).bind fun b S1 => if b = true then (fe σ1 S1).bind fun y S2 => .ok (some y) S2 else .ok none S1
  | none => .no
def eLcT (fi : FI) (pf : PF) (ft : FT) (fe : F1) (own : List Nat) : F1 := fun σ S => (fi σ S).bind fun items S1 => (lcG (lcTurnT pf ft fe (wipeD σ own)) items S1).nox.bind fun ys S2 => if ys.length < line then .ok (.lst ys) S2 else .no
section
variable {Γ : Nat → Addr} {W : WX} {X : Cx} {k : Nat} {μ : Mp} {H : Hp} {σ : Sg} {S : Sto} {σ' : L2.St} {pf : PF} {g : TG} {ft : FT} {fi : FI} {fe : F1}
theorem tg_nest (K : PySem.W.Frag) {is vs : List Nat} {j : Nat} (hi : ∀ i ∈ is, i ∈ vs) (hj : j ∈ vs) : TgOk Γ k (L2.gTup K 2 (gCons (gPat K (.tup is)) (gCons (gName j) gNil))) (patN is j) vs := by
  intro μ H σ σ1 S σ' d v Q a r h q
  unfold patN at h
  split at h
  · rename_i xs y
    split at h
    · rename_i hl
      cases h
      obtain ⟨p, ws, rfl, hp, rs⟩ := tup_at K r
      cases rs with
      | cons r1 rs =>
        cases rs with
        | cons r2 rs =>
          cases rs
          rename_i v1 v2
          refine ⟨p, [v1, v2], rfl, hp, rfl, v1, [v2], rfl, ?_⟩
          obtain ⟨p1, ws1, rfl, hp1, rs1⟩ := tup_at K r1
          refine ⟨p1, ws1, rfl, hp1, by rw [← rs1.length]; exact hl, v2, [], rfl, ?_⟩
          exact ⟨rfl, q _ ((a.sets rs1).set r2) ((wipe_wipe_set vs _ hj).trans (wipe_setsV is ws1 σ' hi))⟩
    · cases h
  · cases h
theorem lcT_run {vs : List Nat} {items ys : List D} {S2 : Sto} {J : It} {D0 : Addr} {Qd : Hp → Prop} (hp : TgOk Γ k g pf vs) (a : At Γ k μ H σ S σ') (iw : IW Γ μ H items J) (hD : H D0 = none) (hl : ys.length < line)
    (e : lcG (lcTurnT pf ft fe (wipeD σ vs)) items S = .ok ys S2) (fin : ∀ (ν : Mp) H' acc, Step μ H ν H' → MR Γ (ν.hide D0) S2 H' → D0 ∉ ν → H' D0 = some (.lst acc) → VRs Γ (ν.hide D0) H' ys acc → Qd H') :
    ∃ W1 : Nat → Nat → Hp → Prop, (∃ m, W1 0 m (upd H D0 (.lst []))) ∧ ∀ i m H, W1 i m H →
      (J.stop i H ∧ Qd H) ∨ (J.go i H ∧ ∃ Nx : Hp → Prop, (∀ H', Nx H' → ∃ m', m' < m ∧ W1 (i + 1) m' H') ∧ ∀ x H', J.yld i H x H' → g x (L2.wipe σ' vs) H' fun σ2 H2 => L2.wipe σ2 vs = L2.wipe σ' vs ∧ TTv Γ W0 k ft σ2 H2 fun b H3 =>
        if b = true then TEv Γ W0 k fe σ2 H3 fun y H4 => ∃ acc, H4 D0 = some (.lst acc) ∧ acc.length < sizeLine ∧ Nx (upd H4 D0 (.lst (acc ++ [y]))) else Nx H3) := by
  obtain ⟨G, Y, w, gs, yl⟩ := id iw
  have nD : D0 ∉ μ := a.mr.fresh hD
  refine it_gen w (fun i Hi => ∃ (ν : Mp) (Si : Sto) (done zs : List D), LcS Γ μ H D0 ν Hi done ∧ At Γ k (ν.hide D0) Hi (wipeD σ vs) Si (L2.wipe σ' vs) ∧ lcG (lcTurnT pf ft fe (wipeD σ vs)) (items.drop i) Si = .ok zs S2 ∧ ys = done ++ zs) ?_ ?_ ?_ ?_
  · exact ⟨μ, S, [], ys, ⟨Step.new hD, nD, [], upd_same, .nil⟩, (a.wipe vs).hide hD, by rw [List.drop_zero]; exact e, rfl⟩
  · rintro i Hi _ ⟨ν, Si, done, zs, b, _⟩
    exact gs ν Hi b.st.seen
  · rintro i x' Hi H2 hi ⟨ν, Si, done, zs, b, ai, ez, ey⟩ y
    have hs : Seen Γ μ H (ν.hide D0) Hi := ⟨b.st.pre, fun q u e n => by
      obtain ⟨n1, e1⟩ := b.st.kp q u e n
      exact ⟨not_hide n1 (ne_of_none e hD), e1⟩⟩
    obtain ⟨s2, m2, d, ed, rd⟩ := yl i (ν.hide D0) Hi Si x' H2 hs ai.mr y
    have hlt : i < items.length := (List.getElem?_eq_some_iff.mp ed).1
    have ed' : items[i] = d := by
      rw [List.getElem?_eq_getElem hlt] at ed
      exact Option.some.inj ed
    rw [List.drop_eq_getElem_cons hlt, ed'] at ez
    obtain ⟨o, S3, ws, et, er, ezz⟩ := lcG_cons ez
    unfold lcTurnT at et
    cases ep : pf d (wipeD σ vs) with
    | none => rw [ep] at et; cases et
    | some σ1 =>
      rw [ep] at et
      have et : ((ft σ1 Si).bind fun b S1 => if b = true then (fe σ1 S1).bind fun y S2 => Res.ok (some y) S2 else .ok none S1) = .ok o S3 := et
      refine hp _ _ _ _ _ _ _ _ _ (ai.mono s2 m2) rd ep fun σ1' a1 hw => ⟨hw.trans (wipe_wipe vs σ'), ?_⟩
      cases eb : ft σ1 Si with
      | ex _ _ => rw [eb] at et; cases et
      | no => rw [eb] at et; cases et
      | ok bb S4 =>
        rw [eb] at et
        have et : (if bb = true then (fe σ1 S4).bind fun y S2 => Res.ok (some y) S2 else .ok none S4) = .ok o S3 := et
        refine ⟨_, σ1, Si, a1, sat_ok eb ?_⟩
        intro μ5 H5 s5 m5
        have s25 := s2.trans s5
        cases bb with
        | false =>
          cases et
          refine iteF ?_
          obtain ⟨ν5, rfl, b5⟩ := b.step hD s25 m5
          exact ⟨ν5, S3, done, ws, b5, ai.mono s25 m5, er, by rw [ey, ezz]; rfl⟩
        | true =>
          refine iteT ?_
          have et : ((fe σ1 S4).bind fun y S2 => Res.ok (some y) S2) = .ok o S3 := et
          cases ee : fe σ1 S4 with
          | ex _ _ => rw [ee] at et; cases et
          | no => rw [ee] at et; cases et
          | ok yd S5 =>
            rw [ee] at et
            cases et
            refine ⟨μ5, σ1, S4, a1.mono s5 m5, sat_ok ee ?_⟩
            intro μ6 y' H6 s6 m6 ry
            have s26 := s25.trans s6
            obtain ⟨ν6, rfl, b6⟩ := b.step hD s26 m6
            obtain ⟨acc, k6, hlen, b7, hsw⟩ := b6.put hD nD ry
            refine ⟨acc, k6, ?_, ν6, S3, done ++ [yd], ws, b7, (ai.mono s26 m6).seenW hsw, er, by rw [ey, ezz]; simp [consO]⟩
            refine line_lt ?_
            rw [hlen]
            rw [ey, ezz, List.length_append] at hl
            simp only [consO, List.length_cons] at hl
            omega
  · rintro Hi ⟨ν, Si, done, zs, b, ai, ez, ey⟩
    rw [List.drop_length] at ez
    cases ez
    rw [List.append_nil] at ey
    subst ey
    obtain ⟨acc, k1, r1⟩ := b.ac
    exact fin ν Hi acc b.st ai.mr b.n k1 r1
end
section
variable {Γ : Nat → Addr} {W : WX} {X : Cx} {elt tg iter : Expr} {ifs : List Expr} {scope : Scope} {own : List (Str × Nat)} {pos : Pos} {fi : FI} {pf : PF} {g : TG} {ft : FT} {fe : F1}
/-- [elt for (any target) in iter if ..] -/
theorem s_lcT (hc : X.calm = true) (hN : X.N.Nodup) (hi : SI Γ X W tg iter fi) (ok : BlkOk X.N X.env.scope scope own) (hp : TgOk Γ X.N.length g pf (own.map (·.2)))
    (hg : ∀ (s : Shared) (H : Hp) (C : Addr) (cl : List (Str × Addr)) (fp : List Addr), PG (X.blk s H scope (compEnvC scope cl C X.env) fp) tg g)
    (ht : ∀ (s : Shared) (H : Hp) (C : Addr) (cl : List (Str × Addr)) (fp : List Addr), STs Γ (X.blk s H scope (compEnvC scope cl C X.env) fp) W0 ifs ft)
    (he : ∀ (s : Shared) (H : Hp) (C : Addr) (cl : List (Str × Addr)) (fp : List Addr), SE Γ (X.blk s H scope (compEnvC scope cl C X.env) fp) W0 elt fe) (hs : ∀ x, foldedSetIterable iter X.env x = pure x := by intro _; rfl) :
    SE Γ X W (.ListComp elt [⟨tg, iter, ifs, 0⟩] scope pos) (eLcT fi pf ft fe (own.map (·.2))) := by
  refine PE.imp (pe_lc (tt := TTv Γ W0 X.N.length ft) (te := TEv Γ W0 X.N.length fe) hc hN hi ok hg (fun s H C cl fp => ht s H C cl fp) (fun s H C cl fp => he s H C cl fp) hs) fun σ' H Q h => ?_
  obtain ⟨μ, σ, S, a, h⟩ := h
  refine ⟨μ, σ, S, a, h.of_bind.mono (fun items S1 h1 => ?_) fun _ _ z => z⟩
  intro μ1 H1 J s1 m1 iw D0 hD
  cases e : lcG (lcTurnT pf ft fe (wipeD σ (own.map (·.2)))) items S1 with
  | ex _ _ => rw [e] at h1; exact h1.elim
  | no => rw [e] at h1; exact h1.elim
  | ok ys S2 =>
    rw [e] at h1
    have h1 : Res.Sat (if ys.length < line then Res.ok (D.lst ys) S2 else .no) _ _ := h1
    split at h1
    · rename_i hl
      refine lcT_run hp (a.mono s1 m1) iw hD hl e fun μ' H' acc s' m' n' e' r' => ?_
      exact h1 μ' _ H' (s1.trans s') m'.show (.lst n' e' (r'.seen Seen.unhide))
    · exact h1.elim
end
section
variable {X : Cx} {pos pos2 px py pz : Pos} {i j l : Nat} {x y z : Str} {k k2 : Nat}
/-- (x, y), z -/
theorem pgNest (hc : X.calm = true) (hN : X.N.Nodup) (hi : X.N[i]? = some x) (hj : X.N[j]? = some y) (hl : X.N[l]? = some z) (hx : Loc X.env.scope x := by first | exact Or.inl rfl | exact Or.inr rfl | assumption) (hy : Loc X.env.scope y := by first | exact Or.inl rfl | exact Or.inr rfl | assumption) (hz : Loc X.env.scope z := by first | exact Or.inl rfl | exact Or.inr rfl | assumption)
    (fx : X.fn x = true ∨ X.env.scope.names.lookup x = some .local := by first | exact .inl rfl | exact .inr rfl | assumption) (fy : X.fn y = true ∨ X.env.scope.names.lookup y = some .local := by first | exact .inl rfl | exact .inr rfl | assumption) (fz : X.fn z = true ∨ X.env.scope.names.lookup z = some .local := by first | exact .inl rfl | exact .inr rfl | assumption)
    (hn : (assignEach [.Name x px, .Name y py] X.env).length = 2 := by rfl) (hst : (assignEach [.Name x px, .Name y py] X.env).findIdx? (·.1) = none := by rfl)
    (hn2 : (assignEach [.Tuple [.Name x px, .Name y py] k pos, .Name z pz] X.env).length = 2 := by rfl) (hst2 : (assignEach [.Tuple [.Name x px, .Name y py] k pos, .Name z pz] X.env).findIdx? (·.1) = none := by rfl) :
    PG X (.Tuple [.Tuple [.Name x px, .Name y py] k pos, .Name z pz] k2 pos2) (L2.gTup X.K 2 (gCons (gPat X.K (.tup [i, j])) (gCons (gName l) gNil))) :=
  pg_tup hc (pgs_cons (pg_pat2 hc hN hi hj hx hy fx fy hn hst) (pgs_cons (pg_name hN hl hz fz) pgs_nil)) hn2 hst2
end
end Ev
/-! ### min of a list of ints -/
namespace Ev
open PySem PySem.Spec PyProof.Rows L2
def leastI : Int → List Int → Int
  | a, [] => a
  | a, b :: r => leastI (if b < a then b else a) r
theorem leastI_mem : ∀ (r : List Int) (a : Int), leastI a r ∈ a :: r
  | [], a => List.mem_cons_self
  | b :: r, a => by
    have h := leastI_mem r (if b < a then b else a)
    show leastI (if b < a then b else a) r ∈ a :: b :: r
    rcases List.mem_cons.mp h with z | z
    · rw [z]
      split
      · exact List.mem_cons_of_mem _ List.mem_cons_self
      · exact List.mem_cons_self
    · exact List.mem_cons_of_mem _ (List.mem_cons_of_mem _ z)
theorem leastI_le : ∀ (r : List Int) (a : Int), ∀ y ∈ a :: r, leastI a r ≤ y
  | [], a, y, h => by rw [List.mem_singleton.mp h]; exact Int.le_refl _
  | b :: r, a, y, h => by
    have h1 := leastI_le r (if b < a then b else a)
    have h2 := h1 _ List.mem_cons_self
    show leastI (if b < a then b else a) r ≤ y
    rcases List.mem_cons.mp h with z | z
    · rw [z]
      refine Int.le_trans h2 ?_
      split <;> omega
    · rcases List.mem_cons.mp z with z | z
      · rw [z]
        refine Int.le_trans h2 ?_
        split <;> omega
      · exact h1 y (List.mem_cons_of_mem _ z)
def opMinL : OpC := fun ds S => match ds with
  | [d] => match seqA d S with
    | some xs => match mapO asInt xs with
      | some (a :: r) => .ok (.int (leastI a r)) S
      | _ => .no
    | none => .no
  | _ => .no
section
variable {Γ : Nat → Addr} {W : WX} {X : Cx}
theorem rd_minL : RdC Γ W (rMin X.K) opMinL := by
  intro H Q vs μ ds S n rv m sat
  unfold opMinL at sat
  split at sat
  · obtain ⟨v, rfl, r⟩ := rv.one
    split at sat
    · rename_i xs e
      split at sat
      · rename_i a bs e2
        obtain ⟨p, vs, rfl, hq, rs⟩ := seqA_at X.K m r e
        have e3 := ints_at rs e2
        subst e3
        refine ⟨p, a :: bs, rfl, hq, by simp, fun k h1 h2 => ?_⟩
        have e4 : k = leastI a bs := Int.le_antisymm (h2 _ (leastI_mem bs a)) (leastI_le bs a k h1)
        rw [e4]
        exact KD.here sat m (.int _)
      · exact sat.elim
    · exact sat.elim
  · exact sat.elim
end
end Ev
/-! ### generator defs: plain statements, then `yield from` a list; read by list(o.m()) -/
namespace Ev
open PySem PySem.Spec PyProof.Rows L2 GenW
section
variable {prog : Program} {w : World} {A : Around} {E : Value → Shared → Prop} {s : Shared}
theorem special_lst_item {it l : Addr} {i : Nat} {items : Array Value} {x : Value} {Q : Option Value → Shared → Prop} (hit : s.heap.IsListIter it l i) (hl : s.heap.IsList l items) (hx : items[i]? = some x)
    (hQ : ∀ h', h'.IsListIter it l (i + 1) → Heap.SameBut it s.heap h' → Q (some x) { s with heap := h' }) : wpAny (model prog w) A (callSpecial? (.ref it) "__next__") Q E s := by
  obtain ⟨o, ho, hc, hd⟩ := id hit
  obtain ⟨ol, hol, _, nl, hdl⟩ := hl
  refine wpAny_callSpecial?_slot (name := Str.ofString "__next__") hit.typeIs slot_listiter_next (wpAny_call_entry slot_listiter_next hit.typeIs entry_listiter_next ?_ (args_listiter_next _))
  show wpAny _ _ (field (.ref it) 0 >>= _) _ _ s
  refine wpAny_bind (wpAny_field ho hd (x := .ref l) rfl ?_)
  show wpAny _ _ (if (Value.ref l == Value.none) = true then _ else _) _ _ s
  rw [if_neg (show ¬ ((Value.ref l == Value.none) = true) from Bool.false_ne_true)]
  show wpAny _ _ (field (.ref it) 1 >>= _) _ _ s
  refine wpAny_bind (wpAny_field ho hd (x := .int i 0) rfl ?_)
  show wpAny _ _ (seqItems? (.ref l) >>= _) _ _ s
  refine wpAny_bind (wpAny_seqItems hol hdl ?_)
  simp only [Int.toNat_natCast, hx]
  refine wpAny_bind (wpAny_setField ho hd (by simp) (wpAny_pure ⟨x, rfl, hQ _ ?_ (Heap.SameBut.update ..)⟩))
  exact ⟨_, Heap.get?_update_self _ ho (Obj.isFreed_of_fields (Obj.data_mapFields hd _)), (Obj.cls_mapFields ..).trans hc, by
    rw [Obj.data_mapFields hd]; simp [rawInt]⟩
theorem special_lst_end {it l : Addr} {i : Nat} {items : Array Value} {Q : Option Value → Shared → Prop} (hh : A.handled = none) (hit : s.heap.IsListIter it l i) (hl : s.heap.IsList l items) (hx : items[i]? = none)
    (hE : ∀ e h', StopX e h' → Heap.ExtBut it s.heap h' → E e { s with heap := h' }) : wpAny (model prog w) A (callSpecial? (.ref it) "__next__") Q E s := by
  obtain ⟨o, ho, hc, hd⟩ := id hit
  obtain ⟨ol, hol, _, nl, hdl⟩ := hl
  refine wpAny_callSpecial?_slot (name := Str.ofString "__next__") hit.typeIs slot_listiter_next (wpAny_call_entry slot_listiter_next hit.typeIs entry_listiter_next ?_ (args_listiter_next _))
  show wpAny _ _ (field (.ref it) 0 >>= _) _ _ s
  refine wpAny_bind (wpAny_field ho hd (x := .ref l) rfl ?_)
  show wpAny _ _ (if (Value.ref l == Value.none) = true then _ else _) _ _ s
  rw [if_neg (show ¬ ((Value.ref l == Value.none) = true) from Bool.false_ne_true)]
  show wpAny _ _ (field (.ref it) 1 >>= _) _ _ s
  refine wpAny_bind (wpAny_field ho hd (x := .int i 0) rfl ?_)
  show wpAny _ _ (seqItems? (.ref l) >>= _) _ _ s
  refine wpAny_bind (wpAny_seqItems hol hdl ?_)
  simp only [Int.toNat_natCast, hx]
  refine wpAny_bind (wpAny_rule (wpAny_bind (wpAny_setField ho hd (by simp) ?_)))
  show wpAny _ _ (newExc (.type "StopIteration") [] >>= _) _ _ _
  refine wpAny_bind ?_
  simp only [newExc, newTuple]
  refine wpAny_bind (wpAny_newObj_type ?_ (by size_fits))
  refine wpAny_bind (m := firstArgMember _ _) (wpAny_of_eq (a := Value.none) (by first | rfl | (simp only [firstArgMember]; rfl)) ?_)
  refine wpAny_newObj_type ?_ (by size_fits)
  simp only [raiseNew]
  refine wpAny_bind (wpAny_handled ?_)
  first | rw [show A.in1.handled = none from hh] | rw [hh]
  refine wpAny_bind (wpAny_pure (wpAny_throw ?_))
  refine hE _ _ ⟨_, _, _, rfl, Heap.get?_push_size _ rfl, rfl, rfl, ?_⟩ (((Heap.SameBut.update ..).extBut.push _).push _)
  first
    | rfl
    | (rw [Array.getElem?_append_left (by decide)]; rfl)
    | kernel_rfl
end
theorem close_lst : typeLookup (.type "list_iterator") "close" = pure none := by rw [typeLookup_type, builtinLookup_eq_fast]; kernel_rfl
def tYfLst (te : TE) : TYf := fun σ H Q => te σ H fun x H1 => ∃ a xs, x = .ref a ∧ H1 a = some (.lst xs) ∧ Q xs H1
theorem yf_lst {X : Cx} {e : Expr} {te : TE} (he : PE X e te) : YfE X e (tYfLst te) := by
  refine ⟨fun pins s σ H Q I h => ?_⟩
  refine thn (he.run pins s σ H _ I h) fun v s1 ⟨x, H1, I1, r1, a, xs, ex, ha, hq⟩ => ?_
  subst ex
  obtain rfl : v = Value.ref a := r1
  obtain ⟨hlen, its, cap, rits, hobj⟩ := I1.hok a _ ha
  have ht : s1.heap.IsList a its.toArray := ⟨_, hobj, rfl, cap, rfl⟩
  refine ⟨"list", ht.typeIs, by decide, wpAny_pyIter_list ht ?_⟩
  have ksz : ∀ b o, s1.heap.get? b = some o → b ≠ s1.heap.objs.size := fun b o e => Nat.ne_of_lt (Heap.lt_size e)
  have kp : ∀ b o, s1.heap.get? b = some o → (s1.heap.push { cls := .type "list_iterator", data := .fields #[.ref a, .int 0 0] }).get? b = some o := fun b o e => Heap.get?_push_of_some _ e
  refine ⟨s1.heap.objs.size, H1, xs, fun j h => h.IsListIter s1.heap.objs.size a j ∧ h.IsList a its.toArray, rfl, I1.kept (t' := s1.toks) kp, .inr I1.sz, Nat.ne_of_gt I1.lt, fun y c hy => ?_, I1.hok.fresh (Nat.le_refl _), fun p hp => ?_,
    ⟨⟨_, Heap.get?_push_size _ rfl, rfl, rfl⟩, ht.push _⟩, ⟨⟨"list_iterator", fun j h q => ?_, close_lst, by decide⟩, fun j h h' q hk => ?_, fun A' j x s2 Q' E' hA hx q hQ => ?_, fun A' s2 Q' E' hA q hE => ?_⟩, hq⟩
  · obtain ⟨v, o, ho, _⟩ := I1.cell y c hy
    exact ksz c o ho
  · exact ksz p.1 _ (I1.pin p hp).1
  · obtain ⟨⟨o, ho, hc, _⟩, _⟩ := q
    exact ⟨o, ho, hc⟩
  · obtain ⟨⟨o, ho, r⟩, o2, ho2, r2⟩ := q
    exact ⟨⟨o, hk _ o (.inl rfl) ho, r⟩, o2, hk _ o2 (.inr (by rw [ha]; exact fun z => by cases z)) ho2, r2⟩
  · obtain ⟨q1, q2⟩ := q
    obtain ⟨u, hu, ru⟩ := rits.get hx
    have hne : a ≠ s1.heap.objs.size := Nat.ne_of_lt (Heap.lt_size hobj)
    exact special_lst_item q1 q2 (x := u) (by simpa using hu) fun h' q1' hs => hQ u h' s2.toks ru ⟨q1', q2.extBut hs.extBut hne⟩ fun b o hb eb => hs.extBut b o hb eb
  · obtain ⟨q1, q2⟩ := q
    have hnone : its.toArray[xs.length]? = none := by
      have e := rits.length
      have e2 : its[xs.length]? = none := List.getElem?_eq_none_iff.mpr (by omega)
      simpa using e2
    exact special_lst_end hA q1 q2 hnone fun e h' hS hk => hE e h' s2.toks hS fun b o hb eb => hk b o hb eb
/-! ### the evaluator's side -/
abbrev FL := Sg → Sto → Res (List D)
abbrev FdG := List D → Sto → Res (List D)
/-- what is handed out -/
def KLs (Γ : Nat → Addr) (μ : Mp) (H : Hp) (Q : List V → L2.St → Hp → Prop) : List D → Sto → Prop := fun ds S' => ∀ μ' vs H' σ1, Step μ H μ' H' → MR Γ μ' S' H' → VRs Γ μ' H' ds vs → Q vs σ1 H'
def TGsv (Γ : Nat → Addr) (W : WX) (k : Nat) (g : FL) : TGn := fun D ys σ' H => ys = [] ∧ ∃ μ σ S, At Γ k μ H σ S σ' ∧ (g σ S).Sat (KLs Γ μ H D.nx) (KE Γ W k μ H)
def SGB (Γ : Nat → Addr) (X : Cx) (W : WX) (sts : List Stmt) (g : FL) : Prop := GSs X sts (TGsv Γ W X.N.length g)
theorem GSs.imp {X : Cx} {e : List Stmt} {t t' : TGn} (h : GSs X e t) (hi : ∀ D ys σ H, t' D ys σ H → t D ys σ H) : GSs X e t' :=
  ⟨fun A S ip R n ys s₀ c fs K J gd lv s σ H D g hn k hI q => h.run A S ip R n ys s₀ c fs K J gd lv s σ H D g hn k hI (hi D ys σ H q)⟩
def gThen (g : FS) (h : FL) : FL := fun σ S => (g σ S).bind fun o S1 => match o with
  | .nx σ1 => h σ1 S1
  | _ => .no
def gYf (f : F1) : FL := fun σ S => (f σ S).bind fun d S1 => match seqL d S1 with
  | some xs => if xs.length ≤ line then .ok xs S1 else .no
  | none => .no
section
variable {Γ : Nat → Addr} {W : WX} {X : Cx} {k : Nat} {st : Stmt} {rest : List Stmt} {e : Expr} {f : F1} {yp pos : Pos}
theorem KLs.mono {μ μ1 : Mp} {H H1 : Hp} {Q : List V → L2.St → Hp → Prop} (s : Step μ H μ1 H1) {ds : List D} {S : Sto} (h : KLs Γ μ H Q ds S) : KLs Γ μ1 H1 Q ds S :=
  fun μ' vs H' σ1 st m r => h μ' vs H' σ1 (s.trans st) m r
theorem gb_cons {g : FS} {h : FL} (h1 : SS Γ X W st g) (h2 : SGB Γ X W rest h) : SGB Γ X W (st :: rest) (gThen g h) := by
  refine GSs.imp (gss_cons (gs_ps h1) h2) fun D ys σ' H q => ?_
  obtain ⟨rfl, μ, σ, S, a, sat⟩ := q
  refine ⟨μ, σ, S, a, ?_⟩
  refine sat.of_bind.mono (fun o S1 q => ?_) fun _ _ z => z
  cases o with
  | nx σ1 =>
    intro μ' σ2 H' st a'
    exact ⟨rfl, μ', σ1, S1, a', q.mono (fun _ _ z => z.mono st) fun _ _ z => z.mono st⟩
  | rt d => exact q.elim
  | bk d => exact q.elim
  | ct d => exact q.elim
theorem gb_yf (he : SE Γ X W e f) (hc : X.A.handled = none) (hi : interactive X.env = false := by rfl) : SGB Γ X W [.Expr (.YieldFrom e yp) pos] (gYf f) := by
  refine GSs.imp (gss_cons (gs_yieldFrom (yf_lst he) hc hi) gss_nil) fun D ys σ' H q => ?_
  obtain ⟨rfl, μ, σ, S, a, sat⟩ := q
  show TEv Γ W X.N.length f σ' H _
  refine tev_of a sat.of_bind fun d S1 μ1 v1 H1 q1 s1 a1 r1 => ?_
  split at q1
  · rename_i xs hx
    split at q1
    · rename_i hl
      obtain ⟨p, vs, rfl, hp, rs⟩ := seqL_at a1.mr r1 hx
      refine ⟨p, vs, rfl, hp, ?_, ?_⟩
      · have := rs.length
        exact line_le (by show 0 + vs.length ≤ line; omega)
      · exact q1 μ1 vs H1 σ' s1 a1.mr rs
    · exact q1.elim
  · exact q1.elim
end
/-! ### defs -/
def spG (Γ : Nat → Addr) (m : Nat) (F : FdG) : SpG := fun vs H Q E => ∃ μ ds S, VRs Γ μ H ds vs ∧ ds.length = m ∧ MR Γ μ S H ∧ (F ds S).Sat (KL Γ μ H Q) (KX Γ μ H E)
def FnG (Γ : Nat → Addr) (P : Program) (w : World) (K : PySem.W.Frag) (mg : Str → Option Value) (base : Heap) (k : Nat) (f : Addr) (fd : FuncData) (ps : List Str) (F : FdG) : Prop := GFn P w K mg base k f fd ps (spG Γ ps.length F)
def runG (n m : Nat) (g : FL) : FdG := fun ds S => if ds.length = m then g (startD n ds) S else .no
theorem fn_gen {Γ : Nat → Addr} {P : Program} {w : World} {K : PySem.W.Frag} {mg : Str → Option Value} {base : Heap} {k : Nat} {x qual : Str} {st : Stmt} {f : Addr} {fd : FuncData} {N ps : List Str} {g : FL} (F : Fun K x qual st f fd) (Sc : GScope N ps (defScope st)) (hN : ps.length ≤ N.length)
    (hb : ∀ (cdv : Value) (A : Around) (outer : List Env) (s : Shared) (H : Hp) (E : XK) (pn : List (Addr × Obj)), Room k (A.deeper (envOfC qual (defScope st) s.heap.objs.size f cdv)) →
      SGB Γ (gcxOf P w K mg base N qual (defScope st) f cdv A outer s H E pn) (fun cls d _ H => E cls d H) (defBody st) g) :
    FnG Γ P w K mg base (k + 1) f fd ps (runG N.length ps.length g) := by
  obtain ⟨oc, od, kV, doc, pm, an, cdv, ct, osl, rfl, lk, hcd⟩ := F.ex
  refine gfn_of lk hcd Sc (fun vs H Q E h => ?_) fun A outer s H vs Q E pn hr h => ?_
  · obtain ⟨μ, ds, S, r, hl, _⟩ := h
    rw [← r.length]
    exact hl
  · obtain ⟨μ, ds, S, r, hl, m, sat⟩ := h
    refine ⟨_, hb cdv A outer s H E pn hr, rfl, μ, startD N.length ds, S, (at_start (N := N) m r (by omega) : At Γ N.length μ H (startD N.length ds) S (L2.start N vs)), ?_⟩
    unfold runG at sat
    rw [if_pos hl] at sat
    exact sat.mono (fun xs S1 q μ' vs' H' _ st mr rr => q μ' vs' H' st mr rr) fun x S1 q μ' H' cls d σ1 st m' xr _ => q μ' H' cls d st m' xr
/-- list(o.m()) of a generator method; nothing may be raised within -/
def eListG (c : Nat) (m : Str) (F : FdG) (f : F1) : F1 := fun σ S => (f σ S).bind fun d S1 => match insOf d S1 with
  | some (c', fs) => if c' = c ∧ fs.lookup m = none then match F [d] S1 with
      | .ok xs S2 => .ok (.lst xs) S2
      | _ => .no
    else .no
  | none => .no
theorem s_listG {Γ : Nat → Addr} {W : WX} {X : Cx} {k : Nat} {c : Nat} {m nm x1 : Str} {fa : Addr} {F : FdG} {f : F1} {o : Expr} {p pos pos' apos : Pos} {pl : Sem Bool} (hcl : Cls X.K (Γ c)) (hm : Meth X.K (Γ c) m fa) (G : ∃ fd, Binds X.K fd [x1] [] ∧ FnG Γ X.prog X.w X.K X.mg X.base k fa fd [x1] F) (hr : Room (k + 3) X.A) (ho : SE Γ X W o f)
    (hg : Gl X nm) (hmg : X.mg nm = none) (hv : bootBuiltins nm = some (.type "list")) (hnm : nm ≠ "__name__" := by decide) (hdb : (nm == ("__debug__" : Str)) = false := by decide)
    (he : starEach [.Call (.Attribute o m apos) [] [] pos'] X.env = (false, eval (.Call (.Attribute o m apos) [] [] pos') X.env) :: starEach [] X.env := by rfl)
    (ht : eval (.Call (.Attribute o m apos) [] [] pos') X.env = (do
      let ov ← eval o X.env
      standAt apos.atName
      let (f, first) ← holding [ov] (getMethod ov m pl)
      callWith pos' f first (backTo pos' (starEach [] X.env)) (backToKw pos' (keywordEach [] X.env))) := by rfl) :
    SE Γ X W (.Call (.Name nm p) [.Call (.Attribute o m apos) [] [] pos'] [] pos) (eListG c m F f) := by
  obtain ⟨fd, hb, G⟩ := G
  have pg := pgen_meth0 (X := X) (E := fun _ _ _ => False) (pl := pl) (pos' := pos') (apos := apos) ho hcl hm G (hr.mono (by omega)) hb .nil ht
  refine PE.imp (pe_listG pg (fun pins σ' H sc e s' I c => ?_) (fun _ _ _ z => z.elim) hr hg hmg hv hnm hdb he) fun σ' H Q q => ?_
  · obtain ⟨a, B, H', cls, d, _, _, _, _, _, _, _, q⟩ := c
    exact q.elim
  · obtain ⟨μ, σ, S, a, sat⟩ := q
    show TEv Γ W X.N.length f σ' H _
    refine tev_of a sat.of_bind fun d S1 μ1 v1 H1 q1 s1 a1 r1 => ?_
    split at q1
    · rename_i c' fs ei
      split at q1
      · rename_i hc
        obtain ⟨rfl, hn⟩ := hc
        obtain ⟨p1, dx, vs, rfl, hp, rs⟩ := insOf_at a1.mr r1 ei
        refine ⟨p1, dx, vs, rfl, hp, rs.lookup_none hn, ?_⟩
        show spG Γ 1 F ([.ref p1] ++ []) H1 _ _
        cases hF : F [d] S1 with
        | ok xs S2 =>
          rw [hF] at q1
          refine ⟨μ1, [d], S1, .cons r1 .nil, rfl, a1.mr, ?_⟩
          rw [hF]
          intro μ2 vs2 H2 st2 m2 r2 p hp2
          exact KD.newL (KD.mono (s1.trans st2) q1) m2 r2 hp2
        | ex x S2 =>
          rw [hF] at q1
          exact q1.elim
        | no =>
          rw [hF] at q1
          exact q1.elim
      · exact q1.elim
    · exact q1.elim
end Ev
/-! ### dicts whose keys are tuples -/
namespace Ev
open PySem PySem.Spec PyProof.Rows L2
/-- an item put by a comprehension -/
theorem setT {X : Cx} {pins : List (Addr × Obj)} {σ : L2.St} {H : Hp} {s : Shared} {E : Value → Shared → Prop} {D0 b : Addr} {kvs : List (List Key × V)} {k : List Key} {v : V} {r : Value} {Q : Unit → Shared → Prop} (hu : X.A.units < cLine) (I : Inv X pins σ H s)
    (hD : H D0 = some (.dT kvs)) (hb : H b = some (.tup (k.map kV))) (hz : kvs.length < sizeLine) (rv : RelV v r) (h : ∀ s', Inv X pins σ (upd H D0 (.dT (putK kvs k v))) s' → Q () s') : wpAny (model X.prog X.w) X.A (dictSet D0 (.ref b) r) Q E s := by
  obtain ⟨z, hd, xs, rel, dd⟩ := dt_of I.hok hD
  have lx : xs.length ≤ sizeLine := (Paired.length rel) ▸ z
  have lk : (putK kvs k v).length ≤ sizeLine := Nat.le_trans (length_putK kvs k v) hz
  refine wpAny_dictSet_heap (hsz := lx) (show (tupleKind (mixKind X.prog X.w)).room X.A from hu) (key_of I.hok hb) dd fun h' dd' hs => h _ ?_
  obtain ⟨q, es, ep, hq, r2, r3, r4, _, r5⟩ := dd'
  have old : ∀ c ys, H c = some (.tup ys) → upd H D0 (.dT (putK kvs k v)) c = some (.tup ys) := fun c ys ec => by
    rw [upd_ne (ne_of ec hD fun z => nomatch z)]; exact ec
  exact d_write I (by rw [hD]; trivial) hs ⟨q, hq⟩ ⟨lk, hd, _, (rel.put k hb rv).keeps old, q, es, ep, hq, r2, r3, r4, r5⟩
/-- what a turn does behind its test: the key, the value, the item -/
def tPutT (tk tv : TE) (D0 : Addr) (Nx : Hp → Prop) : L2.St → Hp → Prop := fun σ H => tk σ H fun y H4 => tv σ H4 fun z H5 => ∃ (kvs : List (List Key × V)) (k : List Key) (b : Addr), y = .ref b ∧ H5 b = some (.tup (k.map kV)) ∧ H5 D0 = some (.dT kvs) ∧ kvs.length < sizeLine ∧ Nx (upd H5 D0 (.dT (putK kvs k z)))
/-- {k: v for target in iter if ..}, the keys tuples -/
def tDcT (wi : TI) (g : TG) (tt : TT) (tk tv : TE) (vs : List Nat) : TE := fun σ H Q => wi σ H fun J H1 => ∀ D0, H1 D0 = none → ∃ W : Nat → Nat → Hp → Prop, (∃ m, W 0 m (upd H1 D0 (.dT []))) ∧ ∀ i m H, W i m H →
  (J.stop i H ∧ Q (.ref D0) H) ∨ (J.go i H ∧ ∃ Nx : Hp → Prop, (∀ H', Nx H' → ∃ m', m' < m ∧ W (i + 1) m' H') ∧ ∀ x H', J.yld i H x H' → g x (wipe σ vs) H' fun σ2 H2 => wipe σ2 vs = wipe σ vs ∧ tt σ2 H2 fun b H3 =>
    if b = true then tPutT tk tv D0 Nx σ2 H3 else Nx H3)
section
variable {X : Cx} {kx vx tg iter : Expr} {ifs : List Expr} {scope : Scope} {own : List (Str × Nat)} {pos : Pos} {wi : TI} {g : TG} {tt : TT} {tk tv : TE}
/-- where the block's loop stands: i items are done, n turns at most are left -/
def DcAt (X : Cx) (B : Cx) (fp : List Addr) (tn : Nat → Heap → Prop) (W : Nat → Nat → Hp → Prop) (σ : L2.St) (n : Nat) (s : Shared) : Prop :=
  ∃ i H, Inv B [] σ H s ∧ tn i s.heap ∧ (∀ b ∈ fp, H b = none) ∧ W i n H
theorem pe_dcT (hu : X.A.units < cLine) (hc : X.calm = true) (hN : X.N.Nodup) (hi : PI X tg iter wi) (ok : BlkOk X.N X.env.scope scope own)
    (hg : ∀ (s : Shared) (H : Hp) (C : Addr) (cl : List (Str × Addr)) (fp : List Addr), PG (X.blk s H scope (compEnvC scope cl C X.env) fp) tg g) (ht : ∀ (s : Shared) (H : Hp) (C : Addr) (cl : List (Str × Addr)) (fp : List Addr), PTs (X.blk s H scope (compEnvC scope cl C X.env) fp) ifs tt)
    (hk : ∀ (s : Shared) (H : Hp) (C : Addr) (cl : List (Str × Addr)) (fp : List Addr), PE (X.blk s H scope (compEnvC scope cl C X.env) fp) kx tk)
    (he : ∀ (s : Shared) (H : Hp) (C : Addr) (cl : List (Str × Addr)) (fp : List Addr), PE (X.blk s H scope (compEnvC scope cl C X.env) fp) vx tv) (hs : ∀ x, foldedSetIterable iter X.env x = pure x := by intro _; rfl) :
    PE X (.DictComp kx vx [⟨tg, iter, ifs, 0⟩] scope pos) (tDcT wi g tt tk tv (own.map (·.2))) := by
  refine ⟨fun pins s σ H Q I h => ?_⟩
  rw [arm_eval_DictComp]
  have clo : ∀ y ∈ scope.names, y.2 = .free → ∃ c, X.env.cells.lookup y.1 = some c := fun y hy e => (ok.free y hy e).elim (fun z => I.ok.has _ (.inl z)) fun z => I.ok.has _ (.inr z)
  refine wpAny_comprehension_free (use := none) rfl hs (closure_ok clo) ok.kind (fun y hy e => by rw [ok.uniq y hy, e]) (thn (hi.run pins s σ H _ I h) fun xv s1 hx => thn hx fun itv s2 q0 => ?_)
  obtain ⟨it, fp, tn, J, H2, rfl, I2, T, at0, f2, q⟩ := q0
  refine wpAny_newObj_type (newEnv_comp ?_)
  generalize eD : s2.heap.objs.size = D0
  obtain ⟨W, ⟨m0, w0⟩, turn⟩ := q D0 (I2.hok.fresh (Nat.le_of_eq eD))
  -- the dict lies there, empty
  generalize e3 : ({ s2 with heap := s2.heap.push { cls := .type "dict", data := .dict #[] } } : Shared) = s3
  have hp3 : s3.heap = s2.heap.push { cls := .type "dict", data := .dict #[] } := by rw [← e3]
  have I3 : Inv X pins σ (upd H2 D0 (.dT [])) s3 := by
    subst e3 eD
    exact I2.laid (t' := s2.toks) (fun b o e => Heap.get?_push_of_some _ e) (Nat.le_refl _) (dt_empty s2.heap I2.big)
  have small : ∀ b ∈ fp, b < D0 := fun b hb => by
    obtain ⟨o, e, _⟩ := T.obj _ _ at0 b hb
    rw [← eD]; exact Heap.lt_size e
  have f3 : ∀ b ∈ fp, FpOk X pins (upd H2 D0 (.dT [])) b ∧ b < s3.heap.objs.size := fun b hb => by
    obtain ⟨a1, a2⟩ := f2 b hb
    exact ⟨⟨by rw [upd_ne (Nat.ne_of_lt (small b hb))]; exact a1, a2⟩, by rw [hp3, Heap.size_push, eD]; exact Nat.lt_succ_of_lt (small b hb)⟩
  have at3 : tn 0 s3.heap := T.keep _ _ _ at0 fun b _ o e => by rw [hp3]; exact Heap.get?_push_of_some _ e
  have I4 := block_start I3 ok hN f3
  generalize eC : s3.heap.objs.size = C at I4 ⊢
  show codeAny _ _ (.compStart (.DictComp kx vx [⟨tg, iter, ifs, 0⟩] scope pos) 0 (.ref it) (.ref D0) (compEnvC scope (cellsFrom (C + 1) scope.names (cloFrom X.env.cells scope.names [])) C X.env)) (compPost (model X.prog X.w) X.A X.xe none _ (.ref D0) C) { s3 with heap := pushCells (s3.heap.push { cls := .type "dict", data := .dict #[] }) scope.names }
  have bg := hg s3 (upd H2 D0 (.dT [])) C (cellsFrom (C + 1) scope.names (cloFrom X.env.cells scope.names [])) fp
  have bt := ht s3 (upd H2 D0 (.dT [])) C (cellsFrom (C + 1) scope.names (cloFrom X.env.cells scope.names [])) fp
  have bk := hk s3 (upd H2 D0 (.dT [])) C (cellsFrom (C + 1) scope.names (cloFrom X.env.cells scope.names [])) fp
  have bv := he s3 (upd H2 D0 (.dT [])) C (cellsFrom (C + 1) scope.names (cloFrom X.env.cells scope.names [])) fp
  generalize ee : compEnvC scope (cellsFrom (C + 1) scope.names (cloFrom X.env.cells scope.names [])) C X.env = ce at I4 bg bt bk bv ⊢
  have eL : ce.locals = C := by rw [← ee]; rfl
  generalize eH : upd H2 D0 (.dT []) = H3 at I3 I4 bg bt bk bv w0 f3
  generalize e4 : ({ s3 with heap := pushCells (s3.heap.push { cls := .type "dict", data := .dict #[] }) scope.names } : Shared) = s4 at I4 ⊢
  have at4 : tn 0 s4.heap := T.keep _ _ _ at3 fun b _ o e => by rw [← e4]; exact pushCells_keeps _ _ _ _ (Heap.get?_push_of_some _ e)
  let B := X.blk s3 H3 scope ce fp
  have fix : ∀ {σ' : L2.St} {H' : Hp} {s' : Shared}, Inv B [] σ' H' s' → (∀ b ∈ fp, H' b = none) → ∀ b ∈ fp, FpOk B [] H' b := fun {σ' H' s'} J1 hn b hb =>
    ⟨hn b hb, (J1.ok.exf b hb).1, J1.ok.exfs b hb, .inl hb, fun y c e => (J1.ok.exf b hb).2 y c e, fun p hp => nomatch (show p ∈ ([] : List (Addr × Obj)) from hp)⟩
  refine codeAny_compStart_dict ?_ (T.self X.A 0 _ _ _ at4 ?_)
  all_goals
    refine compLoop_anyD (DcAt X B fp tn W (wipe σ (own.map (·.2)))) ?_ m0 ⟨0, H3, I4, at4, fun b hb => (f3 b hb).1.1, w0⟩
    rintro n s5 ⟨i, H5, I5, at5, n5, w5⟩
    rcases turn i n H5 w5 with ⟨stop, fine⟩ | ⟨go, Nx, less, step⟩
    · refine thnF (T.done B rfl rfl rfl hc i [] s5 _ H5 (fun _ _ => False) I5 (fix I5 n5) at5 stop) fun r s6 ⟨hr, I6⟩ => ?_
      subst hr
      have I7 : Inv X pins σ H5 s6 := I3.call' (ch := fp) I6.os I6.base I6.hok I6.bare fun b hb => by
        obtain ⟨_, a2, _, a4, a5, a6⟩ := (f3 b hb).1
        exact ⟨a4, a2, a5, a6⟩
      have free : H5 C = none := by
        have z : H5 ce.locals = none := I6.free
        rwa [eL] at z
      obtain ⟨mp, hn, _⟩ := I6.loc
      have hn : s6.heap.Ns ce.locals mp := hn
      rw [eL] at hn
      obtain ⟨b0, b1, b2, b3, b4, b5⟩ := I3.fpOk (Nat.le_of_eq eC) free
      exact ⟨mp, hn, fun h'' sb => ⟨.ref D0, H5, I7.turned (t' := s6.toks) (fun b o hb e => (sb.2 b hb).trans e) b0 b1 b3 b4 b5, rfl, fine⟩⟩
    · refine thnF (T.item B rfl rfl rfl hc i [] s5 _ H5 (fun _ _ => False) I5 (fix I5 n5) at5 go) fun r s6 ⟨u, hr, q6⟩ => ?_
      subst hr
      refine thnF q6 fun _ s7 ⟨x, H7, I7, r7, y7, at7, n7⟩ => ?_
      have P7 := I7.pinned (fix I7 n7) (T.obj _ _ at7)
      refine thnF (bg.run _ s7 _ H7 x u _ P7 r7 (step x H7 y7)) fun _ s8 ⟨σ8, H8, I8, w8, q8⟩ => thnF (bt.run _ s8 σ8 H8 _ I8 q8) fun b s9 ⟨H9, I9, q9⟩ => ?_
      have next : ∀ {s' : Shared} {H' : Hp}, Inv B ([] ++ pinsAt fp s7.heap) σ8 H' s' → Nx H' → ∃ m, m < n ∧ DcAt X B fp tn W (wipe σ (own.map (·.2))) m s' := fun {s' H'} J1 nx => by
        obtain ⟨m', hm, w'⟩ := less H' nx
        have held : ∀ b ∈ fp, ∀ o, s7.heap.get? b = some o → s'.heap.get? b = some o ∧ H' b = none := fun b hb o e => by
          obtain ⟨z1, z2, _⟩ := J1.pin (b, o) (List.mem_append_right _ (List.mem_append_right _ (mem_pinsAt hb e)))
          exact ⟨z1, z2⟩
        refine ⟨m', hm, i + 1, H', (J1.unpinned (pins := [])).weak (by rw [← w8, wipe_length]) (fun j v e => ?_), T.keep _ _ _ at7 fun b hb o e => (held b hb o e).1, fun b hb => ?_, w'⟩
        · rw [← w8] at e
          exact (wipe_some e).1
        · obtain ⟨o, e, _⟩ := T.obj _ _ at7 b hb
          exact (held b hb o e).2
      cases b with
      | false => exact next I9 q9
      | true =>
        refine thnF (bk.run _ s9 σ8 H9 _ I9 q9) fun z s10 ⟨yk, H10, I10, r10, q10⟩ => thnF (bv.run _ s10 σ8 H10 _ I10 q10) fun z2 s11 ⟨yv, H11, I11, r11, kvs, k, bb, ek, hbb, hD11, hz, nx⟩ => ?_
        subst ek
        cases (show z = Value.ref bb from r10)
        exact setT (X := B) hu I11 hD11 hbb hz r11 fun s12 I12 => next I12 nx
end
end Ev
/-! ### dicts whose keys are tuples: the evaluator's side -/
namespace Ev
open PySem PySem.Spec PyProof.Rows L2
theorem MR.notTup {Γ : Nat → Addr} {μ : Mp} {S : Sto} {H : Hp} (m : MR Γ μ S H) {p : Addr} {xs : List V} (h : H p = some (.tup xs)) : p ∉ μ := fun z => by
  rcases z with z | z
  · obtain ⟨i, hi, e⟩ := List.mem_iff_getElem.mp z
    have hS : i < S.length := by rw [← m.len]; exact hi
    have q := m.ob i _ p (List.getElem?_eq_getElem hS) (by rw [← e]; exact List.getElem?_eq_getElem hi)
    generalize S[i] = o at q
    cases q with
    | lst h2 _ => rw [h] at h2; cases h2
    | dk h2 _ => rw [h] at h2; cases h2
    | dt h2 _ => rw [h] at h2; cases h2
    | ins h2 _ => rw [h] at h2; cases h2
  · obtain ⟨⟨o, e, nt⟩, _⟩ := m.hd p z
    rw [h] at e
    cases e
    exact nt _ rfl
def keyT (k : List Key) : D := .tup (k.map keyD)
def keysT (kvs : List (List Key × D)) : List D := kvs.map fun kv => keyT kv.1
theorem keyT_at {Γ : Nat → Addr} {μ : Mp} {S : Sto} {H : Hp} (m : MR Γ μ S H) {p : Addr} {k : List Key} (h : H p = some (.tup (k.map kV))) : VR Γ μ H (keyT k) (.ref p) := .tup (m.notTup h) h (keys_at k)
/-- the key that a value is -/
def keyOfT : D → Option (List Key)
  | .tup xs => keysOf xs
  | _ => none
theorem keyOfT_at {Γ : Nat → Addr} {μ : Mp} {H : Hp} {d : D} {v : V} {k : List Key} (r : VR Γ μ H d v) (h : keyOfT d = some k) : ∃ p, v = .ref p ∧ H p = some (.tup (k.map kV)) := by
  unfold keyOfT at h
  split at h
  · cases r with
    | tup n e rs => exact ⟨_, rfl, by rw [e, keysOf_at rs h]⟩
  · cases h
section
variable {Γ : Nat → Addr} {W : WX} {X : Cx} {e : Expr} {μ : Mp} {H : Hp} {S : Sto}
theorem TRs.at_key : ∀ {ds : List (List Key × D)} {vs : List (List Key × V)} {i : Nat} {k : List Key} {v : V}, TRs Γ μ H ds vs → vs[i]? = some (k, v) → ∃ d, ds[i]? = some (k, d) ∧ VR Γ μ H d v
  | _, _, _, _, _, .nil, e => by simp at e
  | _, _, 0, _, _, .cons r _, e => by simp at e; obtain ⟨rfl, rfl⟩ := e; exact ⟨_, rfl, r⟩
  | _, _, i + 1, k, v, .cons _ t, e => by
    obtain ⟨d, h1, h2⟩ := TRs.at_key (i := i) (k := k) (v := v) t (by simpa using e)
    exact ⟨d, by simpa using h1, h2⟩
theorem step_frzT {p : Addr} {ob : Obj} {kvs : List (List Key × V)} (n : p ∉ μ) (h : H p = some (.dT kvs)) : Step μ H μ (upd H p (.frz ob (.dT kvs))) := by
  refine ⟨⟨[], by simp⟩, rfl, fun q o e nq => ⟨nq, ?_⟩, fun q o hq e => ?_⟩
  · by_cases z : q = p
    · subst z
      rw [h] at e
      cases e
      exact .inr ⟨ob, upd_same, .inr ⟨kvs, rfl⟩⟩
    · rw [upd_ne z]
      exact .inl e
  · rw [upd_ne (fun z => n (by rw [← z]; exact .inr hq))]
    exact e
theorem iw_keysT {q : Addr} {ob : Obj} {ds : List (List Key × D)} {vs : List (List Key × V)} (n : q ∉ μ) (h : H q = some (.frz ob (.dT vs))) (r : TRs Γ μ H ds vs) : IW Γ μ H (keysT ds) (Itkt q ob vs) := by
  refine ⟨_, _, by rw [show (keysT ds).length = vs.length from by unfold keysT; rw [List.length_map]; exact r.length]; exact walk_keysT, fun μ1 H1 s => (s.keep _ _ h n).2, ?_⟩
  rintro i μ1 H1 S1 x' H2 s m ⟨rfl, k, v, b, hv, rfl, hb⟩
  obtain ⟨d, hd, _⟩ := r.at_key hv
  exact ⟨Step.refl, m, keyT k, by unfold keysT; rw [List.getElem?_map, hd]; rfl, keyT_at m hb⟩
end
/-! ### for k in d -/
def iKeysT (f : F1) : FI := fun σ S => (f σ S).bind fun d S1 => match d with
  | .dt kvs => .ok (keysT kvs) S1
  | .dk kvs => .ok (keysD kvs) S1
  | _ => .no
section
variable {Γ : Nat → Addr} {W : WX} {X : Cx} {tg e : Expr} {es : List Expr} {f : F1} {g : FA} {p pos apos cpos : Pos} {op : OpC}
theorem i_keysT (he : SE Γ X W e f) : SI Γ X W tg e (iKeysT f) := by
  refine PI.imp (pi_keys (pe_frz he)) fun σ' H R h => ?_
  obtain ⟨μ, σ, S, a, h⟩ := h
  refine tev_of a h.of_bind fun d S1 μ1 v1 H1 h1 s1 a1 r1 => ?_
  split at h1
  · rename_i kvs
    cases r1 with
    | @dt _ vs q n rd rs =>
      rcases rd with rd | ⟨ob, rd⟩
      · refine .inr ⟨q, _, rfl, rd, trivial, fun ob => ⟨q, ob, rfl, .inr ⟨vs, upd_same, ?_⟩⟩⟩
        have st : Step μ1 H1 μ1 (upd H1 q (.frz ob (.dT vs))) := step_frzT n rd
        exact h1 μ1 _ _ (s1.trans st) (a1.mr.frz n st) (iw_keysT n upd_same (rs.mono st))
      · exact .inl ⟨q, ob, rfl, .inr ⟨vs, rd, h1 μ1 _ _ s1 a1.mr (iw_keysT n rd rs)⟩⟩
  · rename_i kvs
    cases r1 with
    | @dk _ vs q n rd rs =>
      rcases rd with rd | ⟨ob, rd⟩
      · refine .inr ⟨q, _, rfl, rd, trivial, fun ob => ⟨q, ob, rfl, .inl ⟨vs, upd_same, ?_⟩⟩⟩
        have st : Step μ1 H1 μ1 (upd H1 q (.frz ob (.dK vs))) := step_frzK n rd
        exact h1 μ1 _ _ (s1.trans st) (a1.mr.frz n st) (iw_keys n upd_same (rs.mono st))
      · exact .inl ⟨q, ob, rfl, .inl ⟨vs, rd, h1 μ1 _ _ s1 a1.mr (iw_keys n rd rs)⟩⟩
  · exact h1.elim
/-! ### list(d), len(d) -/
def opListT : OpC := fun ds S => match ds with
  | [.dt kvs] => .ok (.lst (keysT kvs)) S
  | _ => .no
theorem rd_listT : RdC Γ W (fun xs H Q => ∃ d kvs, xs = [V.ref d] ∧ Rd H d (.dT kvs) ∧ ∀ p bs, H p = none → IsKeys H kvs bs → Q (.ref p) (upd H p (.lst (bs.map V.ref)))) opListT := by
  intro H Q vs μ ds S n rv m sat
  unfold opListT at sat
  split at sat
  · rename_i kvs
    obtain ⟨v, rfl, r⟩ := rv.one
    cases r with
    | @dt _ ws q nq rd rs =>
      refine ⟨q, ws, rfl, rd, fun p bs hp hb => ?_⟩
      have z : ∀ {ks : List (List Key × D)} {ws : List (List Key × V)} {bs : List Addr}, TRs Γ μ H ks ws → IsKeys H ws bs → VRs Γ μ H (keysT ks) (bs.map V.ref) := by
        intro ks ws bs t
        induction ks generalizing ws bs with
        | nil =>
          cases t
          intro b
          cases b
          exact .nil
        | cons k ks ih =>
          cases t with
          | cons a t =>
            intro b
            cases b with
            | cons h b => exact .cons (keyT_at m h) (ih t b)
      exact KD.newL sat m (z rs hb) hp
  · exact sat.elim
def opLenT : OpC := fun ds S => match ds with
  | [.dt kvs] => .ok (.int kvs.length) S
  | _ => .no
theorem call_len_rdT : CallR X (.builtin "len") (fun xs H Q => ∃ (d : Addr) (kvs : List (List Key × V)), xs = [V.ref d] ∧ Rd H d (.dT kvs) ∧ Q (.int ((kvs.length : Nat) : Int)) H) := by
  intro pins s σ H xs us Q I r h
  obtain ⟨d, kvs, rfl, hd, q⟩ := h
  obtain ⟨u, rfl, rx⟩ := r.one
  cases rx
  obtain ⟨z, hs, xs, rel, dd⟩ := dt_rd I.hok hd
  have hl := Paired.length rel
  refine call_len_dictH hs dd (by rw [← hl]; rw [sizeLine_eq] at z; omega) ?_
  exact ⟨.int ((kvs.length : Nat) : Int), H, I.tok _, ⟨_, by rw [hl]⟩, q⟩
theorem rd_lenT : RdC Γ W (fun xs H Q => ∃ (d : Addr) (kvs : List (List Key × V)), xs = [V.ref d] ∧ Rd H d (.dT kvs) ∧ Q (.int ((kvs.length : Nat) : Int)) H) opLenT := by
  intro H Q vs μ ds S n rv m sat
  unfold opLenT at sat
  split at sat
  · obtain ⟨v, rfl, r⟩ := rv.one
    cases r with
    | dt nq rd rs =>
      refine ⟨_, _, rfl, rd, ?_⟩
      rw [← rs.length]
      exact KD.here sat m (.int _)
  · exact sat.elim
end
/-! ### {k: v for ..} -/
def putOT (acc : List (List Key × D)) : Option (List Key × D) → List (List Key × D)
  | some kv => putD acc kv.1 kv.2
  | none => acc
def dcGT (turn : D → Sto → Res (Option (List Key × D))) : List D → List (List Key × D) → Sto → Res (List (List Key × D))
  | [], acc, S => .ok acc S
  | x :: r, acc, S => (turn x S).bind fun o S1 => dcGT turn r (putOT acc o) S1
/-- the item of a turn -/
def dcPair (y z : D) (S : Sto) : Res (Option (List Key × D)) := match keyOfT y with
  | some k => .ok (some (k, z)) S
  | none => .no
def dcTurnT (p : Pat) (ft : FT) (fk fv : F1) (σ : Sg) : D → Sto → Res (Option (List Key × D)) := fun d S => match patD p d σ with
  | some σ1 => (ft σ1 S).bind fun b S1 => if b = true then (fk σ1 S1).bind fun y S2 => (fv σ1 S2).bind fun z S3 => dcPair y z S3 else .ok none S1
  | none => .no
def eDcT (fi : FI) (p : Pat) (ft : FT) (fk fv : F1) (own : List Nat) : F1 := fun σ S => (fi σ S).bind fun items S1 => if items.length < line then (dcGT (dcTurnT p ft fk fv (wipeD σ own)) items [] S1).nox.bind fun ys S2 => .ok (.dt ys) S2 else .no
theorem bind_inv {α β : Type} {r : Res α} {f : α → Sto → Res β} {b : β} {S' : Sto} (h : r.bind f = .ok b S') : ∃ a S1, r = .ok a S1 ∧ f a S1 = .ok b S' := by
  cases r with
  | ok a S1 => exact ⟨a, S1, rfl, h⟩
  | ex _ _ => cases h
  | no => cases h
theorem putT_len (kvs : List (List Key × V)) (k : List Key) (v : V) : (putK kvs k v).length ≤ kvs.length + 1 := length_putK kvs k v
section
variable {Γ : Nat → Addr} {W : WX} {X : Cx} {kx vx tg iter : Expr} {ifs : List Expr} {scope : Scope} {own : List (Str × Nat)} {pos : Pos} {fi : FI} {p : Pat} {ft : FT} {fk fv : F1} {k : Nat} {μ : Mp} {H : Hp} {σ : Sg} {S : Sto} {σ' : L2.St}
/-- what a turn begins with: the new dict, hidden, holds what is done -/
structure DcS (Γ : Nat → Addr) (μ : Mp) (H : Hp) (D0 : Addr) (ν : Mp) (Hi : Hp) (done : List (List Key × D)) (i : Nat) : Prop where
  st : Step μ H ν Hi
  nn : D0 ∉ ν
  ac : ∃ acc, Hi D0 = some (.dT acc) ∧ TRs Γ (ν.hide D0) Hi done acc ∧ acc.length ≤ i
theorem DcS.step {D0 : Addr} {ν μ5 : Mp} {Hi H5 : Hp} {S5 : Sto} {done : List (List Key × D)} {i : Nat} (h : DcS Γ μ H D0 ν Hi done i) (s : Step (ν.hide D0) Hi μ5 H5) (m5 : MR Γ μ5 S5 H5) : ∃ ν5 : Mp, μ5 = ν5.hide D0 ∧ DcS Γ μ H D0 ν5 H5 done i := by
  obtain ⟨si, nν, acc, hacc, rdn, hl⟩ := h
  obtain ⟨c5, h5⟩ := μ5
  have eh : h5 = D0 :: ν.hid := s.hid
  subst eh
  have k5 : H5 D0 = some (.dT acc) := s.hkeep D0 _ List.mem_cons_self hacc
  have n5 : D0 ∉ (⟨c5, ν.hid⟩ : Mp) := fun z => by
    rcases z with z | z
    · exact (m5.hd D0 List.mem_cons_self).2 z
    · exact nν (.inr z)
  have rd5 : TRs Γ ((⟨c5, ν.hid⟩ : Mp).hide D0) H5 done acc := rdn.mono s
  refine ⟨⟨c5, ν.hid⟩, rfl, si.trans ⟨s.pre, rfl, fun q u eq nq => ?_, fun q u hq eq => s.hkeep q u (List.mem_cons_of_mem _ hq) eq⟩, n5, acc, k5, rd5, hl⟩
  by_cases ez : q = D0
  · subst ez
    rw [hacc] at eq
    cases eq
    exact ⟨n5, .inl k5⟩
  · obtain ⟨n1, e1⟩ := s.kp q u eq (not_hide nq ez)
    exact ⟨not_unhide n1, e1⟩
theorem dc_runT (K : PySem.W.Frag) {vs : List Nat} {items : List D} {ys : List (List Key × D)} {S2 : Sto} {J : It} {D0 : Addr} {Qd : Hp → Prop} (hp : ∀ i ∈ p.slots, i ∈ vs) (a : At Γ k μ H σ S σ') (iw : IW Γ μ H items J) (hD : H D0 = none) (hl : items.length < line)
    (e : dcGT (dcTurnT p ft fk fv (wipeD σ vs)) items [] S = .ok ys S2) (fin : ∀ (ν : Mp) H' acc, Step μ H ν H' → MR Γ (ν.hide D0) S2 H' → D0 ∉ ν → H' D0 = some (.dT acc) → TRs Γ (ν.hide D0) H' ys acc → Qd H') :
    ∃ W1 : Nat → Nat → Hp → Prop, (∃ m, W1 0 m (upd H D0 (.dT []))) ∧ ∀ i m H, W1 i m H →
      (J.stop i H ∧ Qd H) ∨ (J.go i H ∧ ∃ Nx : Hp → Prop, (∀ H', Nx H' → ∃ m', m' < m ∧ W1 (i + 1) m' H') ∧ ∀ x H', J.yld i H x H' → gPat K p x (L2.wipe σ' vs) H' fun σ2 H2 => L2.wipe σ2 vs = L2.wipe σ' vs ∧ TTv Γ W0 k ft σ2 H2 fun b H3 =>
        if b = true then tPutT (TEv Γ W0 k fk) (TEv Γ W0 k fv) D0 Nx σ2 H3 else Nx H3) := by
  obtain ⟨G, Y, w, gs, yl⟩ := id iw
  have nD : D0 ∉ μ := a.mr.fresh hD
  refine walk_it w (T := fun Nx x H' => gPat K p x (L2.wipe σ' vs) H' fun σ2 H2 => L2.wipe σ2 vs = L2.wipe σ' vs ∧ TTv Γ W0 k ft σ2 H2 fun b H3 => if b = true then tPutT (TEv Γ W0 k fk) (TEv Γ W0 k fv) D0 Nx σ2 H3 else Nx H3)
    (fun i Hi => ∃ (ν : Mp) (Si : Sto) (done : List (List Key × D)), DcS Γ μ H D0 ν Hi done i ∧ At Γ k (ν.hide D0) Hi (wipeD σ vs) Si (L2.wipe σ' vs) ∧ dcGT (dcTurnT p ft fk fv (wipeD σ vs)) (items.drop i) done Si = .ok ys S2) ?_ ?_ ?_ ?_
  · exact ⟨μ, S, [], ⟨Step.new hD, nD, [], upd_same, .nil, Nat.le_refl _⟩, (a.wipe vs).hide hD, by rw [List.drop_zero]; exact e⟩
  · rintro i Hi _ ⟨ν, Si, done, b, _⟩
    exact gs ν Hi b.st.seen
  · rintro i x' Hi H2 hi ⟨ν, Si, done, b, ai, ez⟩ y
    have hs : Seen Γ μ H (ν.hide D0) Hi := ⟨b.st.pre, fun q u e n => by
      obtain ⟨n1, e1⟩ := b.st.kp q u e n
      exact ⟨not_hide n1 (ne_of_none e hD), e1⟩⟩
    obtain ⟨s2, m2, d, ed, rd⟩ := yl i (ν.hide D0) Hi Si x' H2 hs ai.mr y
    have hlt : i < items.length := (List.getElem?_eq_some_iff.mp ed).1
    have ed' : items[i] = d := by
      rw [List.getElem?_eq_getElem hlt] at ed
      exact Option.some.inj ed
    rw [List.drop_eq_getElem_cons hlt, ed'] at ez
    obtain ⟨o, S3, et, er⟩ := bind_inv (f := fun o S1 => dcGT (dcTurnT p ft fk fv (wipeD σ vs)) (items.drop (i + 1)) (putOT done o) S1) ez
    unfold dcTurnT at et
    cases ep : patD p d (wipeD σ vs) with
    | none => rw [ep] at et; cases et
    | some σ1 =>
      rw [ep] at et
      obtain ⟨tb, S4, eb, et⟩ := bind_inv et
      refine gPat_at K (ai.mono s2 m2) rd ep hp fun σ1' a1 hw => ⟨hw.trans (wipe_wipe vs σ'), _, σ1, Si, a1, sat_ok eb ?_⟩
      intro μ5 H5 s5 m5
      have s25 := s2.trans s5
      cases tb with
      | false =>
        cases et
        refine iteF ?_
        obtain ⟨ν5, rfl, b5⟩ := b.step s25 m5
        obtain ⟨acc, k5, r5, l5⟩ := b5.ac
        exact ⟨ν5, S3, done, ⟨b5.st, b5.nn, acc, k5, r5, Nat.le_succ_of_le l5⟩, ai.mono s25 m5, er⟩
      | true =>
        refine iteT ?_
        obtain ⟨yd, S5, ee, et⟩ := bind_inv et
        refine ⟨μ5, σ1, S4, a1.mono s5 m5, sat_ok ee ?_⟩
        intro μ6 y' H6 s6 m6 ry
        obtain ⟨zd, S6, ev, et⟩ := bind_inv et
        unfold dcPair at et
        cases ekey : keyOfT yd with
        | none => rw [ekey] at et; cases et
        | some key =>
          rw [ekey] at et
          cases et
          refine ⟨μ6, σ1, S5, (a1.mono s5 m5).mono s6 m6, sat_ok ev ?_⟩
          intro μ7 z' H7 s7 m7 rz
          obtain ⟨bk, ebk, hbk⟩ := keyOfT_at (ry.mono s7) ekey
          obtain ⟨ν7, rfl, b7⟩ := b.step ((s25.trans s6).trans s7) m7
          obtain ⟨acc, k7, r7, l7⟩ := b7.ac
          have hh : D0 ∈ (ν7.hide D0).hid := List.mem_cons_self
          have hsw : Seen Γ (ν7.hide D0) H7 (ν7.hide D0) (upd H7 D0 (.dT (putK acc key z'))) := Seen.write (.inr hh)
          have a7 := ai.mono ((s25.trans s6).trans s7) m7
          refine ⟨acc, key, bk, ebk, hbk, k7, line_lt (Nat.lt_of_le_of_lt l7 (Nat.lt_trans hlt hl)), ν7, S3, putD done key zd, ⟨⟨b7.st.pre, b7.st.hid, fun q u eq nq => ?_, fun q u hq eq => ?_⟩, b7.nn, putK acc key z', upd_same, (r7.put rz).seen hsw, Nat.le_trans (putT_len _ _ _) (Nat.succ_le_succ l7)⟩, a7.seenW hsw, er⟩
          · obtain ⟨n1, e1⟩ := b7.st.kp q u eq nq
            exact ⟨n1, by rw [upd_ne (ne_of_none eq hD)]; exact e1⟩
          · rw [upd_ne (fun z => nD (.inr (by rw [← z]; exact hq)))]
            exact b7.st.hkeep q u hq eq
  · rintro Hi ⟨ν, Si, done, b, ai, ez⟩
    obtain ⟨acc, hacc, rdn, _⟩ := b.ac
    rw [List.drop_length] at ez
    cases ez
    exact fin ν Hi acc b.st ai.mr b.nn hacc rdn
theorem s_dcT (hu : X.A.units < cLine) (hc : X.calm = true) (hN : X.N.Nodup) (hi : SI Γ X W tg iter fi) (ok : BlkOk X.N X.env.scope scope own) (hp : ∀ i ∈ p.slots, i ∈ own.map (·.2))
    (hg : ∀ (s : Shared) (H : Hp) (C : Addr) (cl : List (Str × Addr)) (fp : List Addr), PG (X.blk s H scope (compEnvC scope cl C X.env) fp) tg (gPat X.K p))
    (ht : ∀ (s : Shared) (H : Hp) (C : Addr) (cl : List (Str × Addr)) (fp : List Addr), STs Γ (X.blk s H scope (compEnvC scope cl C X.env) fp) W0 ifs ft)
    (hk : ∀ (s : Shared) (H : Hp) (C : Addr) (cl : List (Str × Addr)) (fp : List Addr), SE Γ (X.blk s H scope (compEnvC scope cl C X.env) fp) W0 kx fk)
    (he : ∀ (s : Shared) (H : Hp) (C : Addr) (cl : List (Str × Addr)) (fp : List Addr), SE Γ (X.blk s H scope (compEnvC scope cl C X.env) fp) W0 vx fv) (hs : ∀ x, foldedSetIterable iter X.env x = pure x := by intro _; rfl) :
    SE Γ X W (.DictComp kx vx [⟨tg, iter, ifs, 0⟩] scope pos) (eDcT fi p ft fk fv (own.map (·.2))) := by
  refine PE.imp (pe_dcT (tt := TTv Γ W0 X.N.length ft) (tk := TEv Γ W0 X.N.length fk) (tv := TEv Γ W0 X.N.length fv) hu hc hN hi ok hg (fun s H C cl fp => ht s H C cl fp) (fun s H C cl fp => hk s H C cl fp) (fun s H C cl fp => he s H C cl fp) hs) fun σ' H Q h => ?_
  obtain ⟨μ, σ, S, a, h⟩ := h
  refine ⟨μ, σ, S, a, h.of_bind.mono (fun items S1 h1 => ?_) fun _ _ z => z⟩
  intro μ1 H1 J s1 m1 iw D0 hD
  split at h1
  · rename_i hl
    cases e : dcGT (dcTurnT p ft fk fv (wipeD σ (own.map (·.2)))) items [] S1 with
    | ex _ _ => rw [e] at h1; exact h1.elim
    | no => rw [e] at h1; exact h1.elim
    | ok ys S2 =>
      rw [e] at h1
      refine dc_runT X.K hp (a.mono s1 m1) iw hD hl e fun μ' H' acc s' m' n' e' r' => ?_
      exact h1 μ' _ H' (s1.trans s') m'.show (.dt n' (.inl e') (r'.seen Seen.unhide))
  · exact h1.elim
end
end Ev
/-! ### dict displays -/
namespace Ev
open PySem PySem.Spec PyProof.Rows L2
/-- an object that is being made: hidden -/
structure HidS (μ : Mp) (H : Hp) (D0 : Addr) (ν : Mp) (Hi : Hp) (o : HO) : Prop where
  st : Step μ H ν Hi
  nn : D0 ∉ ν
  ob : Hi D0 = some o
section
variable {Γ : Nat → Addr} {μ : Mp} {H : Hp} {D0 : Addr} {ν : Mp} {Hi : Hp} {o : HO}
theorem HidS.new (n : D0 ∉ μ) (h : H D0 = none) : HidS μ H D0 μ (upd H D0 o) o := ⟨Step.new h, n, upd_same⟩
theorem HidS.step {μ5 : Mp} {H5 : Hp} {S5 : Sto} (h : HidS μ H D0 ν Hi o) (s : Step (ν.hide D0) Hi μ5 H5) (m5 : MR Γ μ5 S5 H5) : ∃ ν5 : Mp, μ5 = ν5.hide D0 ∧ HidS μ H D0 ν5 H5 o := by
  obtain ⟨si, nν, hob⟩ := h
  obtain ⟨c5, h5⟩ := μ5
  have eh : h5 = D0 :: ν.hid := s.hid
  subst eh
  have k5 : H5 D0 = some o := s.hkeep D0 _ List.mem_cons_self hob
  have n5 : D0 ∉ (⟨c5, ν.hid⟩ : Mp) := fun z => by
    rcases z with z | z
    · exact (m5.hd D0 List.mem_cons_self).2 z
    · exact nν (.inr z)
  refine ⟨⟨c5, ν.hid⟩, rfl, si.trans ⟨s.pre, rfl, fun q u eq nq => ?_, fun q u hq eq => s.hkeep q u (List.mem_cons_of_mem _ hq) eq⟩, n5, k5⟩
  by_cases ez : q = D0
  · subst ez
    rw [hob] at eq
    cases eq
    exact ⟨n5, .inl k5⟩
  · obtain ⟨n1, e1⟩ := s.kp q u eq (not_hide nq ez)
    exact ⟨not_unhide n1, e1⟩
theorem HidS.put {o' : HO} (h : HidS μ H D0 ν Hi o) (n : D0 ∉ μ) (hD : H D0 = none) : HidS μ H D0 ν (upd Hi D0 o') o' := by
  refine ⟨⟨h.st.pre, h.st.hid, fun q u eq nq => ?_, fun q u hq eq => ?_⟩, h.nn, upd_same⟩
  · obtain ⟨n1, e1⟩ := h.st.kp q u eq nq
    exact ⟨n1, by rw [upd_ne (ne_of_none eq hD)]; exact e1⟩
  · rw [upd_ne (fun z => n (.inr (by rw [← z]; exact hq)))]
    exact h.st.hkeep q u hq eq
end
/-! #### pairs -/
abbrev FP := Sg → Sto → Res (List (D × D))
def pNil : FP := fun _ S => .ok [] S
def pCons (fk fv : F1) (r : FP) : FP := fun σ S => (fk σ S).bind fun x S1 => (fv σ S1).bind fun y S2 => (r σ S2).bind fun ps S3 => .ok ((x, y) :: ps) S3
def VPs (Γ : Nat → Addr) (μ : Mp) (H : Hp) : List (D × D) → List (V × V) → Prop := Paired fun p q => VR Γ μ H p.1 q.1 ∧ VR Γ μ H p.2 q.2
structure SP (Γ : Nat → Addr) (X : Cx) (W : WX) (pos : Pos) (keys : List (Option Expr)) (values : List Expr) (fp : FP) : Prop where
  ex : ∃ trs, PPs X pos keys values trs ∧ ∀ {σ' : L2.St} {H : Hp} {μ : Mp} {σ : Sg} {S : Sto} {ps : List (D × D)} {S1 : Sto} {Q : List (V × V) → Hp → Prop}, At Γ X.N.length μ H σ S σ' → fp σ S = .ok ps S1 →
    (∀ μ1 H1 vs, Step μ H μ1 H1 → At Γ X.N.length μ1 H1 σ S1 σ' → VPs Γ μ1 H1 ps vs → Q vs H1) → tPairs trs σ' H Q
section
variable {Γ : Nat → Addr} {X : Cx} {W : WX} {pos : Pos} {keys : List (Option Expr)} {values : List Expr} {fp : FP} {fk fv : F1} {k v : Expr}
theorem p_nil : SP Γ X W pos [] [] pNil := ⟨[], pps_nil, fun a e q => by cases e; exact q _ _ _ Step.refl a .nil⟩
theorem p_cons (hk : SE Γ X W k fk) (hv : SE Γ X W v fv) (hr : SP Γ X W pos keys values fp) : SP Γ X W pos (some k :: keys) (v :: values) (pCons fk fv fp) := by
  obtain ⟨trs, pr, run⟩ := hr.ex
  refine ⟨_, pps_cons hk hv pr, fun {σ' H μ σ S ps S1 Q} a e q => ?_⟩
  obtain ⟨x, S2, e1, e⟩ := bind_inv e
  obtain ⟨y, S3, e2, e⟩ := bind_inv e
  obtain ⟨qs, S4, e3, e⟩ := bind_inv e
  cases e
  refine tev_ok a e1 fun μ1 v1 H1 s1 a1 r1 => tev_ok a1 e2 fun μ2 v2 H2 s2 a2 r2 => run a2 e3 fun μ3 H3 vs s3 a3 r3 => ?_
  exact q μ3 H3 _ (s1.trans (s2.trans s3)) a3 (.cons ⟨(r1.mono s2).mono s3, r2.mono s3⟩ r3)
end
def itemsK : List (D × D) → Option (List (Key × D))
  | [] => some []
  | (x, y) :: r => match keyOf x, itemsK r with
    | some k, some ks => some ((k, y) :: ks)
    | _, _ => none
def itemsT : List (D × D) → Option (List (List Key × D))
  | [] => some []
  | (x, y) :: r => match keyOfT x, itemsT r with
    | some k, some ks => some ((k, y) :: ks)
    | _, _ => none
section
variable {Γ : Nat → Addr} {μ : Mp} {H : Hp}
theorem itemsK_at : ∀ {ps : List (D × D)} {vs : List (V × V)} {ks : List (Key × D)}, VPs Γ μ H ps vs → itemsK ps = some ks → ∃ kvs : List (Key × V), vs = kvs.map (fun kv => (kV kv.1, kv.2)) ∧ KRs Γ μ H ks kvs
  | [], _, _, r, e => by cases r; cases e; exact ⟨[], rfl, .nil⟩
  | (x, y) :: ps, _, ks, r, e => by
    cases r with
    | @cons _ q _ qs h t =>
      unfold itemsK at e
      split at e
      · rename_i k ks2 e1 e2
        cases e
        obtain ⟨kvs, ev, rk⟩ := itemsK_at t e2
        obtain ⟨q1, q2⟩ := q
        have e3 : q1 = kV k := keyOf_at h.1 e1
        subst e3
        exact ⟨(k, q2) :: kvs, by rw [ev]; rfl, .cons h.2 rk⟩
      · cases e
theorem itemsT_at : ∀ {ps : List (D × D)} {vs : List (V × V)} {ks : List (List Key × D)}, VPs Γ μ H ps vs → itemsT ps = some ks → ∃ es : List (List Key × Addr × V), vs = es.map (fun e => (V.ref e.2.1, e.2.2)) ∧ (∀ e ∈ es, H e.2.1 = some (.tup (e.1.map kV))) ∧ TRs Γ μ H ks (es.map fun e => (e.1, e.2.2))
  | [], _, _, r, e => by cases r; cases e; exact ⟨[], rfl, (fun _ z => nomatch z), .nil⟩
  | (x, y) :: ps, _, ks, r, e => by
    cases r with
    | @cons _ q _ qs h t =>
      unfold itemsT at e
      split at e
      · rename_i k ks2 e1 e2
        cases e
        obtain ⟨es, ev, hh, rk⟩ := itemsT_at t e2
        obtain ⟨q1, q2⟩ := q
        obtain ⟨b, rfl, hb⟩ := keyOfT_at h.1 e1
        refine ⟨(k, b, q2) :: es, by rw [ev]; rfl, fun e z => ?_, .cons h.2 rk⟩
        rcases List.mem_cons.mp z with z | z
        · rw [z]; exact hb
        · exact hh e z
      · cases e
def mergeTD (kvs more : List (List Key × D)) : List (List Key × D) := more.foldl (fun acc kv => putD acc kv.1 kv.2) kvs
def mergeTV (kvs more : List (List Key × V)) : List (List Key × V) := more.foldl (fun acc kv => putK acc kv.1 kv.2) kvs
theorem TRs.merge : ∀ {more : List (List Key × D)} {vs : List (List Key × V)} {ds : List (List Key × D)} {ws : List (List Key × V)}, TRs Γ μ H more vs → TRs Γ μ H ds ws → TRs Γ μ H (mergeTD ds more) (mergeTV ws vs)
  | _, _, _, _, .nil, h => h
  | _, _, _, _, .cons a r, h => TRs.merge (ds := putD _ _ _) (ws := putK _ _ _) r (h.put a)
end
theorem mergeTV_len : ∀ (more kvs : List (List Key × V)), (mergeTV kvs more).length ≤ kvs.length + more.length
  | [], kvs => Nat.le_refl _
  | p :: r, kvs => by
    have h1 := mergeTV_len r (putK kvs p.1 p.2)
    have h2 := length_putK kvs p.1 p.2
    show (mergeTV (putK kvs p.1 p.2) r).length ≤ _
    rw [List.length_cons]
    omega
/-! #### keys ints and texts -/
def eDispK (fp : FP) : F1 := fun σ S => (fp σ S).nox.bind fun ps S1 => match itemsK ps with
  | some ks => if ps.length ≤ 15 then .ok (.dk (mergeD [] ks)) S1 else .no
  | none => .no
def eDisp0 : F1 := fun _ S => .ok (.dk []) S
def eDispT (fp : FP) : F1 := fun σ S => (fp σ S).nox.bind fun ps S1 => match itemsT ps with
  | some ks => if ps.length ≤ 15 then .ok (.dt (mergeTD [] ks)) S1 else .no
  | none => .no
def eDispT0 : F1 := fun _ S => .ok (.dt []) S
/-- {k: v, ..}, the keys tuples: as pe_disp tells of the other keys -/
def tDispT (trs : List (TE × TE)) : TE := fun σ H Q => ∀ p, H p = none → tPairs trs σ (upd H p (.dT [])) fun vs H2 => H2 p = some (.dT []) ∧ ∃ es : List (List Key × Addr × V), vs = es.map (fun e => (V.ref e.2.1, e.2.2)) ∧ (∀ e ∈ es, H2 e.2.1 = some (.tup (e.1.map kV))) ∧ es.length ≤ 15 ∧
  Q (.ref p) (upd H2 p (.dT (mergeTV [] (es.map fun e => (e.1, e.2.2)))))
theorem carryT {P : Program} {w : World} {H : Hp} {h : Heap} (ok : HOk P w H h) : ∀ {es : List (List Key × Addr × V)} {ws : List (Value × Value)}, VV (es.map fun e => (V.ref e.2.1, e.2.2)) ws → (∀ e ∈ es, H e.2.1 = some (.tup (e.1.map kV))) →
    ∃ rs : List (List Key × Addr × Value), CarriesH (tupleKind (mixKind P w)) h ws rs ∧ Paired (fun (e : List Key × Addr × V) (x : List Key × Addr × Value) => e.1 = x.1 ∧ e.2.1 = x.2.1 ∧ RelV e.2.2 x.2.2) es rs
  | [], _, r, _ => by cases r; exact ⟨[], trivial, .nil⟩
  | e :: es, _, r, hk => by
    rw [List.map_cons] at r
    cases r with
    | @cons _ b _ bs h1 t =>
      obtain ⟨rs, c, q⟩ := carryT ok t fun e z => hk e (List.mem_cons_of_mem _ z)
      obtain ⟨b1, b2⟩ := b
      exact ⟨(e.1, e.2.1, b2) :: rs, ⟨h1.1, rfl, key_of ok (hk e List.mem_cons_self), c⟩, .cons ⟨rfl, rfl, h1.2⟩ q⟩
theorem KT.mergeV {H : Hp} : ∀ {es : List (List Key × Addr × V)} {rs : List (List Key × Addr × Value)} {kvs : List (List Key × V)} {xs : List (List Key × Addr × Value)}, Paired (fun (e : List Key × Addr × V) (x : List Key × Addr × Value) => e.1 = x.1 ∧ e.2.1 = x.2.1 ∧ RelV e.2.2 x.2.2) es rs →
    (∀ e ∈ es, H e.2.1 = some (.tup (e.1.map kV))) → KT H kvs xs → KT H (mergeTV kvs (es.map fun e => (e.1, e.2.2))) (storedAllH xs rs)
  | [], _, _, _, r, _, k => by cases r; exact k
  | e :: es, _, kvs, xs, r, hk, k => by
    cases r with
    | @cons _ x _ rs h t =>
      have e1 : KT H (putK kvs e.1 e.2.2) (storedH xs x.1 x.2.1 x.2.2) := by
        rw [← h.1, ← h.2.1]
        exact k.put e.1 (hk e List.mem_cons_self) h.2.2
      have r1 : KT H (mergeTV (putK kvs e.1 e.2.2) (es.map fun e => (e.1, e.2.2))) (storedAllH (storedH xs x.1 x.2.1 x.2.2) rs) := KT.mergeV t (fun e z => hk e (List.mem_cons_of_mem _ z)) e1
      exact r1
theorem pe_dispT {X : Cx} {pos : Pos} {keys : List (Option Expr)} {values : List Expr} {trs : List (TE × TE)} (hu : X.A.units < cLine) (h : PPs X pos keys values trs) (hall : keys.all (·.isSome) = true) (hl : keys.length = values.length) (h0 : keys ≠ []) (h15 : keys.length ≤ 15) :
    PE X (.Dict keys values pos) (tDispT trs) := by
  refine ⟨fun pins s σ H Q I q => ?_⟩
  have n := pairTrees_length keys values X.env pos hall hl
  have hn := I.hok.fresh (Nat.le_refl s.heap.objs.size)
  have I1 := I.laid (a := s.heap.objs.size) (o := .dT []) (h' := s.heap.push { cls := .type "dict", data := .dict #[] }) (t' := s.toks) (fun _ _ q => Heap.get?_push_of_some _ q) (Nat.le_refl _) (dt_empty s.heap I.big)
  rw [arm_eval_Dict, zip_pairTrees keys values X.env pos hall hl, dictDisplay_pairs (pairTrees keys values X.env pos) (fun z => h0 (List.length_eq_zero_iff.mp (by rw [← n, z]; rfl))) (by omega)]
  refine wpAny_bind (wpAny_standAt (wpAny_bind (wpAny_subDictH (knd := tupleKind (mixKind X.prog X.w)) (show (tupleKind (mixKind X.prog X.w)).room X.A from hu) (by omega) ?_)))
  refine thn (h.run pins _ σ _ _ I1 (q _ hn)) fun ws s2 ⟨vs, H2, I2, rel, e, es, ev, hk, lk, q2⟩ => ?_
  subst ev
  obtain ⟨rs, c, pr⟩ := carryT I2.hok rel hk
  obtain ⟨z, hd, xs, r0, dd⟩ := dt_of I2.hok e
  cases r0
  refine ⟨rs, c, dd, fun h' tk dd' hs => wpAny_pure ⟨.ref s.heap.objs.size, _, ?_, rfl, q2⟩⟩
  have lm : (mergeTV [] (es.map fun e => (e.1, e.2.2))).length ≤ sizeLine := by
    have l1 := mergeTV_len (es.map fun e => (e.1, e.2.2)) []
    rw [List.length_nil, List.length_map] at l1
    rw [sizeLine_eq]
    omega
  obtain ⟨o, ees, ep, hq, r2, r3, r4, _, r5⟩ := dd'
  have old : ∀ c ys, H2 c = some (.tup ys) → upd H2 s.heap.objs.size (.dT (mergeTV [] (es.map fun e => (e.1, e.2.2)))) c = some (.tup ys) := fun c ys ec => by
    rw [upd_ne (ne_of ec e fun z => nomatch z)]; exact ec
  exact d_write I2 (by rw [e]; trivial) hs ⟨o, hq⟩ ⟨lm, hd, _, (KT.mergeV pr hk .nil).keeps old, o, ees, ep, hq, r2, r3, r4, r5⟩
section
variable {Γ : Nat → Addr} {X : Cx} {W : WX} {pos : Pos} {keys : List (Option Expr)} {values : List Expr} {fp : FP}
theorem s_disp0 : SE Γ X W (.Dict [] [] pos) eDisp0 := by
  refine PE.imp pe_dnewK fun σ' H Q q => ?_
  obtain ⟨μ, σ, S, a, sat⟩ := q
  intro p hp
  exact sat μ _ _ (Step.new hp) (a.mr.new hp) (.dk (a.mr.fresh hp) (.inl upd_same) .nil)
theorem s_dispT0 : SE Γ X W (.Dict [] [] pos) eDispT0 := by
  refine PE.imp pe_dnewT fun σ' H Q q => ?_
  obtain ⟨μ, σ, S, a, sat⟩ := q
  intro p hp
  exact sat μ _ _ (Step.new hp) (a.mr.new hp) (.dt (a.mr.fresh hp) (.inl upd_same) .nil)
theorem nox_ok {α : Type} {r : Res α} {β : Type} {f : α → Sto → Res β} {Q : β → Sto → Prop} {E : XV → Sto → Prop} (h : (r.nox.bind f).Sat Q E) : ∃ a S, r = .ok a S ∧ (f a S).Sat Q E := by
  cases r with
  | ok a S => exact ⟨a, S, rfl, h⟩
  | ex _ _ => exact h.elim
  | no => exact h.elim
theorem s_dispK (h : SP Γ X W pos keys values fp) (hall : keys.all (·.isSome) = true := by rfl) (hl : keys.length = values.length := by rfl) (h0 : keys ≠ [] := by simp) (h15 : keys.length ≤ 15 := by decide) : SE Γ X W (.Dict keys values pos) (eDispK fp) := by
  obtain ⟨trs, pr, run⟩ := h.ex
  refine PE.imp (pe_disp pr hall hl h0 h15) fun σ' H Q q => ?_
  obtain ⟨μ, σ, S, a, sat⟩ := q
  intro p hp
  obtain ⟨ps, S1, e, sat⟩ := nox_ok sat
  refine run (a.hide hp) e fun μ5 H5 vs s5 a5 r5 => ?_
  have np := a.mr.fresh hp
  obtain ⟨ν, rfl, b⟩ := (HidS.new np hp).step s5 a5.mr
  refine ⟨b.ob, ?_⟩
  split at sat
  · rename_i ks ek
    split at sat
    · rename_i hl15
      obtain ⟨kvs, ev, rk⟩ := itemsK_at r5 ek
      refine ⟨kvs, ev, ?_, ?_⟩
      · have h1 := r5.length
        rw [ev, List.length_map] at h1
        omega
      · have hh : p ∈ (ν.hide p).hid := List.mem_cons_self
        have hsw : Seen Γ (ν.hide p) H5 (ν.hide p) (upd H5 p (.dK (mergeK [] kvs))) := Seen.write (.inr hh)
        have b2 := b.put (o' := .dK (mergeK [] kvs)) np hp
        exact sat ν _ _ b2.st (a5.mr.writeH hh).show (.dk b2.nn (.inl b2.ob) (((KRs.merge rk .nil).seen hsw).seen Seen.unhide))
    · exact sat.elim
  · exact sat.elim
theorem s_dispT (hu : X.A.units < cLine) (h : SP Γ X W pos keys values fp) (hall : keys.all (·.isSome) = true := by rfl) (hl : keys.length = values.length := by rfl) (h0 : keys ≠ [] := by simp) (h15 : keys.length ≤ 15 := by decide) : SE Γ X W (.Dict keys values pos) (eDispT fp) := by
  obtain ⟨trs, pr, run⟩ := h.ex
  refine PE.imp (pe_dispT hu pr hall hl h0 h15) fun σ' H Q q => ?_
  obtain ⟨μ, σ, S, a, sat⟩ := q
  intro p hp
  obtain ⟨ps, S1, e, sat⟩ := nox_ok sat
  refine run (a.hide hp) e fun μ5 H5 vs s5 a5 r5 => ?_
  have np := a.mr.fresh hp
  obtain ⟨ν, rfl, b⟩ := (HidS.new np hp).step s5 a5.mr
  refine ⟨b.ob, ?_⟩
  split at sat
  · rename_i ks ek
    split at sat
    · rename_i hl15
      obtain ⟨es, ev, hk, rk⟩ := itemsT_at r5 ek
      refine ⟨es, ev, hk, ?_, ?_⟩
      · have h1 := r5.length
        rw [ev, List.length_map] at h1
        omega
      · have hh : p ∈ (ν.hide p).hid := List.mem_cons_self
        have hsw : Seen Γ (ν.hide p) H5 (ν.hide p) (upd H5 p (.dT (mergeTV [] (es.map fun e => (e.1, e.2.2))))) := Seen.write (.inr hh)
        have b2 := b.put (o' := .dT (mergeTV [] (es.map fun e => (e.1, e.2.2)))) np hp
        exact sat ν _ _ b2.st (a5.mr.writeH hh).show (.dt b2.nn (.inl b2.ob) (((TRs.merge rk .nil).seen hsw).seen Seen.unhide))
    · exact sat.elim
  · exact sat.elim
end
/-! ### two empty dicts -/
def opDNe0 : Op2 := fun x y S => match x, y with
  | .dt [], .dk [] => .ok (.bl false) S
  | _, _ => .no
theorem ok_dne0 {Γ : Nat → Addr} {X : Cx} {W : WX} (hu : X.A.units < cLine) : OkOp Γ X W (compareOp .NotEq) opDNe0 := by
  intro pins s σ' H x' y' v u Q μ x y S I rx ry vx vy m sat
  unfold opDNe0 at sat
  split at sat
  · cases vx with
    | @dt _ ws p n rd rs =>
      cases vy with
      | @dk _ us q n2 rd2 rs2 =>
        cases rs
        cases rs2
        obtain rfl : v = Value.ref p := rx
        obtain rfl : u = Value.ref q := ry
        obtain ⟨_, ya, xs, ra, da⟩ := dt_rd I.hok rd
        obtain ⟨_, yb, vb, rb, db⟩ := dk_rd I.hok rd2
        cases ra
        cases rb
        obtain ⟨o, es, ep, h1, h2, h3, h4, _, h5⟩ := da
        have e0 : es.toList = [] := h4
        have dk : s.heap.DictOf (mixKind X.prog X.w) p [] := ⟨o, es, ep, h1, h2, h3, (fun e z => by rw [← Array.mem_toList_iff, e0] at z; cases z), (by rw [e0]; exact .nil), List.nodup_nil⟩
        exact PySem.W.keq_ne (knd := mixKind X.prog X.w) (r := true) ya yb dk db hu (fun _ => .nil) (fin_bl I (KD.here sat m (.bl _)) (by simp))
  · exact sat.elim
end Ev
/-! ### four names as a target -/
namespace Ev
open PySem PySem.Spec PyProof.Rows L2
section
variable {X : Cx} {pos px py pz pw : Pos} {x y z w : Str} {i j l m k : Nat}
theorem pgN4 (hc : X.calm = true) (hN : X.N.Nodup) (hi : X.N[i]? = some x) (hj : X.N[j]? = some y) (hl : X.N[l]? = some z) (hm : X.N[m]? = some w) (hx : Loc X.env.scope x := by first | exact Or.inl rfl | exact Or.inr rfl | assumption) (hy : Loc X.env.scope y := by first | exact Or.inl rfl | exact Or.inr rfl | assumption) (hz : Loc X.env.scope z := by first | exact Or.inl rfl | exact Or.inr rfl | assumption) (hw : Loc X.env.scope w := by first | exact Or.inl rfl | exact Or.inr rfl | assumption)
    (fx : X.fn x = true ∨ X.env.scope.names.lookup x = some .local := by first | exact .inl rfl | exact .inr rfl | assumption) (fy : X.fn y = true ∨ X.env.scope.names.lookup y = some .local := by first | exact .inl rfl | exact .inr rfl | assumption) (fz : X.fn z = true ∨ X.env.scope.names.lookup z = some .local := by first | exact .inl rfl | exact .inr rfl | assumption) (fw : X.fn w = true ∨ X.env.scope.names.lookup w = some .local := by first | exact .inl rfl | exact .inr rfl | assumption)
    (hn : (assignEach [.Name x px, .Name y py, .Name z pz, .Name w pw] X.env).length = 4 := by rfl) (hst : (assignEach [.Name x px, .Name y py, .Name z pz, .Name w pw] X.env).findIdx? (·.1) = none := by rfl) : PG X (.Tuple [.Name x px, .Name y py, .Name z pz, .Name w pw] k pos) (gPat X.K (.tup [i, j, l, m])) := by
  refine ⟨fun pins s σ H v u Q I r h => ?_⟩
  obtain ⟨a, xs, rfl, hq, hl', q⟩ := h
  refine (pg_tup (n := 4) hc (pgs_cons (pg_name hN hi hx fx) (pgs_cons (pg_name hN hj hy fy) (pgs_cons (pg_name hN hl hz fz) (pgs_cons (pg_name hN hm hw fw) pgs_nil)))) hn hst).run pins s σ H _ u Q I r ⟨a, xs, rfl, hq, hl', ?_⟩
  match xs, hl', q with
  | [p, v, o, t], _, q => exact ⟨p, [v, o, t], rfl, v, [o, t], rfl, o, [t], rfl, t, [], rfl, rfl, q⟩
end
section
variable {Γ : Nat → Addr} {W : WX} {X : Cx} {elt tg iter : Expr} {ifs : List Expr} {scope : Scope} {own : List (Str × Nat)} {pos spos py : Pos} {fi : FI} {pf : PF} {g : TG} {ft : FT} {fe : F1} {i : Nat} {y : Str}
theorem lcT_rd {k : Nat} {vs : List Nat} {σ' : L2.St} {H : Hp} {Q : VK} (hp : TgOk Γ k g pf vs) (h : TEv Γ W k (eLcT fi pf ft fe vs) σ' H Q) : tLc (TIv Γ W k fi) g (TTv Γ W0 k ft) (TEv Γ W0 k fe) vs σ' H Q := by
  obtain ⟨μ, σ, S, a, h⟩ := h
  refine ⟨μ, σ, S, a, h.of_bind.mono (fun items S1 h1 => ?_) fun _ _ z => z⟩
  intro μ1 H1 J s1 m1 iw D0 hD
  cases e : lcG (lcTurnT pf ft fe (wipeD σ vs)) items S1 with
  | ex _ _ => rw [e] at h1; exact h1.elim
  | no => rw [e] at h1; exact h1.elim
  | ok ys S2 =>
    rw [e] at h1
    have h1 : Res.Sat (if ys.length < line then Res.ok (D.lst ys) S2 else .no) _ _ := h1
    split at h1
    · rename_i hl
      refine lcT_run hp (a.mono s1 m1) iw hD hl e fun μ' H' acc s' m' n' e' r' => ?_
      exact h1 μ' _ H' (s1.trans s') m'.show (.lst n' e' (r'.seen Seen.unhide))
    · exact h1.elim
/-- name = [.. for (any target) in ..] -/
theorem s_setLcT (hc : X.calm = true) (hN : X.N.Nodup) (hy : X.N[i]? = some y) (hyl : X.env.scope.names.lookup y = some .local) (hi : SI Γ X W tg iter fi) (ok : BlkOk X.N X.env.scope scope own) (hp : TgOk Γ X.N.length g pf (own.map (·.2)))
    (hg : ∀ (s : Shared) (H : Hp) (C : Addr) (cl : List (Str × Addr)) (fp : List Addr), PG (X.blk s H scope (compEnvC scope cl C X.env) fp) tg g)
    (ht : ∀ (s : Shared) (H : Hp) (C : Addr) (cl : List (Str × Addr)) (fp : List Addr), STs Γ (X.blk s H scope (compEnvC scope cl C X.env) fp) W0 ifs ft)
    (he : ∀ (s : Shared) (H : Hp) (C : Addr) (cl : List (Str × Addr)) (fp : List Addr), SE Γ (X.blk s H scope (compEnvC scope cl C X.env) fp) W0 elt fe) (hk : X.env.scope.kind = .function := by rfl) (hl : (py.line == pos.line) = true := by rfl)
    (hn : (scope.names.any fun (n, k) => n == y && (k == .local || k == .cell)) = false := by rfl) (hs : ∀ x, foldedSetIterable iter X.env x = pure x := by intro _; rfl) :
    SS Γ X W (.Assign [.Name y py] (.ListComp elt [⟨tg, iter, ifs, 0⟩] scope pos) spos) (sAsg (eLcT fi pf ft fe (own.map (·.2))) (gSlot i)) := by
  refine PS.imp (ps_setLc (tt := TTv Γ W0 X.N.length ft) (te := TEv Γ W0 X.N.length fe) hc hN hy hyl (sw_true hk hyl hl hn) hi ok hg (fun s H C cl fp => ht s H C cl fp) (fun s H C cl fp => he s H C cl fp) hs) fun E σ' H q => ?_
  obtain ⟨μ, σ, S, a, q⟩ := q
  refine lcT_rd hp ⟨μ, σ, S, a, q.of_bind.mono (fun d S1 h1 => ?_) fun _ _ z => z⟩
  intro μ1 v1 H1 st m1 r1
  exact KS.here (KS.mono st h1) ((a.mono st m1).set r1)
end
/-! ### x in a list of data of any depth -/
def opInD : Op2 := fun x y S => match toPy S 9 x, toPy S 9 y with
  | some d, some (.list ds) => .ok (.bl (ds.any fun z => PyData.eqv z d)) S
  | _, _ => .no
def opNotInD : Op2 := fun x y S => match toPy S 9 x, toPy S 9 y with
  | some d, some (.list ds) => .ok (.bl (!ds.any fun z => PyData.eqv z d)) S
  | _, _ => .no
section
variable {Γ : Nat → Addr} {W : WX} {X : Cx}
theorem hu65 {A : Around} {k : Nat} (hr : Room k A) : A.units + 65 < cLine := by
  have := hr.un
  omega
theorem ok_inD (hu : X.A.units + 65 < cLine) : OkOp Γ X W (compareOp .In) opInD := ok_of (op_inD hu) fun H x' y' Q μ x y S n vx vy m sat => by
  unfold opInD at sat
  split at sat
  · rename_i d ds ed ee
    exact ⟨d, ds, toPy_dp X.K m 9 x x' d vx ed, toPy_dp X.K m 9 y y' _ vy ee, shaped_toPy ed, shaped_toPy ee, KD.here sat m (.bl _)⟩
  · exact sat.elim
theorem ok_notInD (hu : X.A.units + 65 < cLine) : OkOp Γ X W (compareOp .NotIn) opNotInD := ok_of (op_notInD hu) fun H x' y' Q μ x y S n vx vy m sat => by
  unfold opNotInD at sat
  split at sat
  · rename_i d ds ed ee
    exact ⟨d, ds, toPy_dp X.K m 9 x x' d vx ed, toPy_dp X.K m 9 y y' _ vy ee, shaped_toPy ed, shaped_toPy ee, KD.here sat m (.bl _)⟩
  · exact sat.elim
end
end Ev
namespace Ev
open PySem PySem.Spec L2
/-! ### evaluation step by step (pure) -/
/-- what follows is not looked at before it is its turn -/
class Kont (α β : Type) where
  k : α → Sto → Res β
def Res.bindI {α β : Type} (r : Res α) [f : Kont α β] : Res β := r.bind f.k
theorem bind_toI {α β : Type} (r : Res α) (f : α → Sto → Res β) : r.bind f = @Res.bindI α β r ⟨f⟩ := rfl
theorem bindI_ok {α β : Type} (a : α) (S : Sto) (f : α → Sto → Res β) : @Res.bindI α β (.ok a S) ⟨f⟩ = f a S := rfl
theorem bindI_ex {α β : Type} (a : XV) (S : Sto) (f : α → Sto → Res β) : @Res.bindI α β (.ex a S) ⟨f⟩ = .ex a S := rfl
theorem bind_ok1 {α β : Type} (a : α) (S : Sto) (f : α → Sto → Res β) : (Res.ok a S).bind f = f a S := rfl
theorem bind_ex1 {α β : Type} (a : XV) (S : Sto) (f : α → Sto → Res β) : (Res.ex a S : Res α).bind f = .ex a S := rfl
section
variable {f g h : F1} {fs gs : FS} {t u : FT} {ga gb : FA} {fi : FI} {tg : FG} {σ : Sg} {S : Sto} {d : D} {op op' : Op2} {un : Op1} {oc : OpC}
theorem ap_bCons  : bCons fs gs σ S = (fs σ S).bind fun o S1 => match o with | .nx σ1 => gs σ1 S1 | o => .ok o S1 := rfl
theorem ap_bNil  : bNil σ S = .ok (.nx σ) S := rfl
theorem ap_sExpr  : sExpr f σ S = (f σ S).bind fun _ S1 => .ok (.nx σ) S1 := rfl
theorem ap_sRet  : sRet f σ S = (f σ S).bind fun d S1 => .ok (.rt d) S1 := rfl
theorem ap_sRetN  : sRetN σ S = .ok (.rt .non) S := rfl
theorem ap_sPass  : sPass σ S = .ok (.nx σ) S := rfl
theorem ap_sIf  : sIf t fs gs σ S = (t σ S).bind fun b S1 => if b = true then fs σ S1 else gs σ S1 := rfl
theorem ap_sAsg  : sAsg f tg σ S = (f σ S).bind fun d S1 => (tg d σ S1).bind fun σ1 S2 => .ok (.nx σ1) S2 := rfl
theorem ap_gTup (tgs : List FG) (xs : List D) : gTup tgs (.tup xs) σ S = if xs.length = tgs.length then gAll tgs xs σ S else .no := rfl
theorem ap_gAll0  : gAll [] [] σ S = .ok σ S := rfl
theorem ap_gAll1 (tgs : List FG) (ds : List D) : gAll (tg :: tgs) (d :: ds) σ S = (tg d σ S).bind fun σ1 S1 => gAll tgs ds σ1 S1 := rfl
theorem ap_eC  : eC d σ S = .ok d S := rfl
theorem ap_aNil  : aNil σ S = .ok [] S := rfl
theorem ap_aCons  : aCons f ga σ S = (f σ S).bind fun d S1 => (ga σ S1).bind fun ds S2 => .ok (d :: ds) S2 := rfl
theorem ap_aStar  : aStar f ga σ S = (f σ S).bind fun d S1 => match seqOf d S1 with | some xs => (ga σ S1).bind fun ds S2 => .ok (xs ++ ds) S2 | none => .no := rfl
theorem ap_eTup  : eTup ga σ S = (ga σ S).bind fun ds S1 => if ds.length ≤ line then .ok (.tup ds) S1 else .no := rfl
theorem ap_eLst  : eLst ga σ S = (ga σ S).bind fun ds S1 => if ds.length ≤ line then .ok (.lst ds) S1 else .no := rfl
theorem ap_eLstM  : eLstM ga σ S = (ga σ S).bind fun ds S1 => if ds.length ≤ line then .ok (.loc S1.length) (S1 ++ [.lst ds]) else .no := rfl
theorem ap_eBin  : eBin op f g σ S = (f σ S).bind fun x S1 => (g σ S1).bind fun y S2 => op x y S2 := rfl
theorem ap_eUn  : eUn un f σ S = (f σ S).bind fun x S1 => un x S1 := rfl
theorem ap_asB (b : Bool) : asB (.bl b) S = .ok b S := rfl
theorem ap_tBin  : tBin op f g σ S = (eBin op f g σ S).bind asB := rfl
theorem ap_eChain  : eChain op op' f g h σ S = (f σ S).bind fun x S1 => (g σ S1).bind fun y S2 => (op x y S2).bind fun z S3 => match z with | .bl true => (h σ S3).bind fun w S4 => op' y w S4 | .bl false => .ok (.bl false) S3 | _ => .no := rfl
theorem ap_tChain  : tChain op op' f g h σ S = (eChain op op' f g h σ S).bind asB := rfl
theorem ap_eCall  : eCall oc ga σ S = (ga σ S).bind oc := rfl
theorem ap_eTru  : eTru f σ S = (f σ S).bind fun d S1 => match tru d S1 with | some b => .ok b S1 | none => .no := rfl
theorem ap_eAnd  : eAnd f g σ S = (f σ S).bind fun d S1 => match tru d S1 with | some true => g σ S1 | some false => .ok d S1 | none => .no := rfl
theorem ap_eOr  : eOr f g σ S = (f σ S).bind fun d S1 => match tru d S1 with | some true => .ok d S1 | some false => g σ S1 | none => .no := rfl
theorem ap_eNot  : eNot f σ S = (f σ S).bind fun d S1 => match tru d S1 with | some b => .ok (.bl (!b)) S1 | none => .no := rfl
theorem ap_eIf  : eIf t f g σ S = (t σ S).bind fun b S1 => if b = true then f σ S1 else g σ S1 := rfl
theorem ap_tAnd  : tAnd t u σ S = (t σ S).bind fun b S1 => if b = true then u σ S1 else .ok false S1 := rfl
theorem ap_tOr  : tOr t u σ S = (t σ S).bind fun b S1 => if b = true then .ok true S1 else u σ S1 := rfl
theorem ap_tNot  : tNot t σ S = (t σ S).bind fun b S1 => .ok (!b) S1 := rfl
theorem ap_tYesD  : tYesD σ S = .ok true S := rfl
theorem ap_sFor  : sFor fi tg gs σ S = (fi σ S).bind fun items S1 => loopG (turnG tg gs) items σ S1 := rfl
theorem ap_turnG  : turnG tg gs d σ S = (tg d σ S).bind gs := rfl
theorem ap_eMeth (c : Nat) (m : Str) (F : Fd) : eMeth c m F f ga σ S = (f σ S).bind fun d S1 => match insOf d S1 with | some (c', fs) => if c' = c ∧ fs.lookup m = none then (ga σ S1).bind fun ds S2 => F (d :: ds) S2 else .no | none => .no := rfl
theorem ap_eProp (c : Nat) (F : Fd) : eProp c F f σ S = (f σ S).bind fun d S1 => match insOf d S1 with | some (c', _) => if c' = c then (F [d] S1).nox else .no | none => .no := rfl
theorem ap_eCm (c : Nat) (F : Fd) : eCm c F f ga σ S = (f σ S).bind fun d S1 => match d with | .gl c' => if c' = c then (ga σ S1).bind fun ds S2 => F (.gl c :: ds) S2 else .no | _ => .no := rfl
theorem ap_eItems  : eItems f σ S = (f σ S).bind fun d S1 => match dictK d S1 with | some kvs => .ok (.lst (itemsD kvs)) S1 | none => .no := rfl
theorem ap_oNone  : oNone σ S = .ok none S := rfl
theorem ap_oSome  : oSome f σ S = (f σ S).bind fun d S1 => match d with | .int i => .ok (some i) S1 | _ => .no := rfl
theorem ap_eCut (o1 o2 : FO) : eCut f o1 o2 σ S = (f σ S).bind fun x S1 => (o1 σ S1).bind fun l S2 => (o2 σ S2).bind fun u S3 => opCut x l u S3 := rfl
theorem ap_iAny  : iAny f σ S = (f σ S).bind fun d S1 => match d with | .dk kvs => .ok (keysD kvs) S1 | .str z => .ok (charsD z) S1 | d => match itms d with | some xs => .ok xs S1 | none => .no := rfl
theorem ap_iRange1  : iRange1 ga σ S = (ga σ S).bind fun ds S1 => match ds with | [.int j] => if -4611686018427387904 ≤ j ∧ j < 4611686018427387904 then .ok ((List.range j.toNat).map fun i => D.int (i : Nat)) S1 else .no | _ => .no := rfl
theorem ap_endRt  : endD (.ok (.rt d) S) = .ok d S := rfl
theorem ap_endNx  : endD (.ok (.nx σ) S) = .ok .non S := rfl
theorem ap_nox {α : Type} (a : α) : (Res.ok a S).nox = .ok a S := rfl
theorem ap_var0 {r : Sg} : eVar 0 (some d :: r) S = .ok d S := rfl
theorem ap_slot0 {x : Option D} {r : Sg} : gSlot 0 d (x :: r) S = .ok (some d :: r) S := rfl
theorem ap_pat0 {x : Option D} {r : Sg} : patD (.slot 0) d (x :: r) = some (some d :: r) := rfl
theorem ap_wipe0 {x : Option D} {r : Sg} : wipeD (x :: r) [0] = (none :: r) := rfl
theorem ap_var1 {a0 : Option D} {r : Sg} : eVar 1 (a0 :: some d :: r) S = .ok d S := rfl
theorem ap_slot1 {a0 : Option D} {x : Option D} {r : Sg} : gSlot 1 d (a0 :: x :: r) S = .ok (a0 :: some d :: r) S := rfl
theorem ap_pat1 {a0 : Option D} {x : Option D} {r : Sg} : patD (.slot 1) d (a0 :: x :: r) = some (a0 :: some d :: r) := rfl
theorem ap_wipe1 {a0 : Option D} {x : Option D} {r : Sg} : wipeD (a0 :: x :: r) [1] = (a0 :: none :: r) := rfl
theorem ap_var2 {a0 a1 : Option D} {r : Sg} : eVar 2 (a0 :: a1 :: some d :: r) S = .ok d S := rfl
theorem ap_slot2 {a0 a1 : Option D} {x : Option D} {r : Sg} : gSlot 2 d (a0 :: a1 :: x :: r) S = .ok (a0 :: a1 :: some d :: r) S := rfl
theorem ap_pat2 {a0 a1 : Option D} {x : Option D} {r : Sg} : patD (.slot 2) d (a0 :: a1 :: x :: r) = some (a0 :: a1 :: some d :: r) := rfl
theorem ap_wipe2 {a0 a1 : Option D} {x : Option D} {r : Sg} : wipeD (a0 :: a1 :: x :: r) [2] = (a0 :: a1 :: none :: r) := rfl
theorem ap_var3 {a0 a1 a2 : Option D} {r : Sg} : eVar 3 (a0 :: a1 :: a2 :: some d :: r) S = .ok d S := rfl
theorem ap_slot3 {a0 a1 a2 : Option D} {x : Option D} {r : Sg} : gSlot 3 d (a0 :: a1 :: a2 :: x :: r) S = .ok (a0 :: a1 :: a2 :: some d :: r) S := rfl
theorem ap_pat3 {a0 a1 a2 : Option D} {x : Option D} {r : Sg} : patD (.slot 3) d (a0 :: a1 :: a2 :: x :: r) = some (a0 :: a1 :: a2 :: some d :: r) := rfl
theorem ap_wipe3 {a0 a1 a2 : Option D} {x : Option D} {r : Sg} : wipeD (a0 :: a1 :: a2 :: x :: r) [3] = (a0 :: a1 :: a2 :: none :: r) := rfl
theorem ap_var4 {a0 a1 a2 a3 : Option D} {r : Sg} : eVar 4 (a0 :: a1 :: a2 :: a3 :: some d :: r) S = .ok d S := rfl
theorem ap_slot4 {a0 a1 a2 a3 : Option D} {x : Option D} {r : Sg} : gSlot 4 d (a0 :: a1 :: a2 :: a3 :: x :: r) S = .ok (a0 :: a1 :: a2 :: a3 :: some d :: r) S := rfl
theorem ap_pat4 {a0 a1 a2 a3 : Option D} {x : Option D} {r : Sg} : patD (.slot 4) d (a0 :: a1 :: a2 :: a3 :: x :: r) = some (a0 :: a1 :: a2 :: a3 :: some d :: r) := rfl
theorem ap_wipe4 {a0 a1 a2 a3 : Option D} {x : Option D} {r : Sg} : wipeD (a0 :: a1 :: a2 :: a3 :: x :: r) [4] = (a0 :: a1 :: a2 :: a3 :: none :: r) := rfl
theorem ap_var5 {a0 a1 a2 a3 a4 : Option D} {r : Sg} : eVar 5 (a0 :: a1 :: a2 :: a3 :: a4 :: some d :: r) S = .ok d S := rfl
theorem ap_slot5 {a0 a1 a2 a3 a4 : Option D} {x : Option D} {r : Sg} : gSlot 5 d (a0 :: a1 :: a2 :: a3 :: a4 :: x :: r) S = .ok (a0 :: a1 :: a2 :: a3 :: a4 :: some d :: r) S := rfl
theorem ap_pat5 {a0 a1 a2 a3 a4 : Option D} {x : Option D} {r : Sg} : patD (.slot 5) d (a0 :: a1 :: a2 :: a3 :: a4 :: x :: r) = some (a0 :: a1 :: a2 :: a3 :: a4 :: some d :: r) := rfl
theorem ap_wipe5 {a0 a1 a2 a3 a4 : Option D} {x : Option D} {r : Sg} : wipeD (a0 :: a1 :: a2 :: a3 :: a4 :: x :: r) [5] = (a0 :: a1 :: a2 :: a3 :: a4 :: none :: r) := rfl
theorem ap_var6 {a0 a1 a2 a3 a4 a5 : Option D} {r : Sg} : eVar 6 (a0 :: a1 :: a2 :: a3 :: a4 :: a5 :: some d :: r) S = .ok d S := rfl
theorem ap_slot6 {a0 a1 a2 a3 a4 a5 : Option D} {x : Option D} {r : Sg} : gSlot 6 d (a0 :: a1 :: a2 :: a3 :: a4 :: a5 :: x :: r) S = .ok (a0 :: a1 :: a2 :: a3 :: a4 :: a5 :: some d :: r) S := rfl
theorem ap_pat6 {a0 a1 a2 a3 a4 a5 : Option D} {x : Option D} {r : Sg} : patD (.slot 6) d (a0 :: a1 :: a2 :: a3 :: a4 :: a5 :: x :: r) = some (a0 :: a1 :: a2 :: a3 :: a4 :: a5 :: some d :: r) := rfl
theorem ap_wipe6 {a0 a1 a2 a3 a4 a5 : Option D} {x : Option D} {r : Sg} : wipeD (a0 :: a1 :: a2 :: a3 :: a4 :: a5 :: x :: r) [6] = (a0 :: a1 :: a2 :: a3 :: a4 :: a5 :: none :: r) := rfl
theorem ap_var7 {a0 a1 a2 a3 a4 a5 a6 : Option D} {r : Sg} : eVar 7 (a0 :: a1 :: a2 :: a3 :: a4 :: a5 :: a6 :: some d :: r) S = .ok d S := rfl
theorem ap_slot7 {a0 a1 a2 a3 a4 a5 a6 : Option D} {x : Option D} {r : Sg} : gSlot 7 d (a0 :: a1 :: a2 :: a3 :: a4 :: a5 :: a6 :: x :: r) S = .ok (a0 :: a1 :: a2 :: a3 :: a4 :: a5 :: a6 :: some d :: r) S := rfl
theorem ap_pat7 {a0 a1 a2 a3 a4 a5 a6 : Option D} {x : Option D} {r : Sg} : patD (.slot 7) d (a0 :: a1 :: a2 :: a3 :: a4 :: a5 :: a6 :: x :: r) = some (a0 :: a1 :: a2 :: a3 :: a4 :: a5 :: a6 :: some d :: r) := rfl
theorem ap_wipe7 {a0 a1 a2 a3 a4 a5 a6 : Option D} {x : Option D} {r : Sg} : wipeD (a0 :: a1 :: a2 :: a3 :: a4 :: a5 :: a6 :: x :: r) [7] = (a0 :: a1 :: a2 :: a3 :: a4 :: a5 :: a6 :: none :: r) := rfl
theorem ap_var8 {a0 a1 a2 a3 a4 a5 a6 a7 : Option D} {r : Sg} : eVar 8 (a0 :: a1 :: a2 :: a3 :: a4 :: a5 :: a6 :: a7 :: some d :: r) S = .ok d S := rfl
theorem ap_slot8 {a0 a1 a2 a3 a4 a5 a6 a7 : Option D} {x : Option D} {r : Sg} : gSlot 8 d (a0 :: a1 :: a2 :: a3 :: a4 :: a5 :: a6 :: a7 :: x :: r) S = .ok (a0 :: a1 :: a2 :: a3 :: a4 :: a5 :: a6 :: a7 :: some d :: r) S := rfl
theorem ap_pat8 {a0 a1 a2 a3 a4 a5 a6 a7 : Option D} {x : Option D} {r : Sg} : patD (.slot 8) d (a0 :: a1 :: a2 :: a3 :: a4 :: a5 :: a6 :: a7 :: x :: r) = some (a0 :: a1 :: a2 :: a3 :: a4 :: a5 :: a6 :: a7 :: some d :: r) := rfl
theorem ap_wipe8 {a0 a1 a2 a3 a4 a5 a6 a7 : Option D} {x : Option D} {r : Sg} : wipeD (a0 :: a1 :: a2 :: a3 :: a4 :: a5 :: a6 :: a7 :: x :: r) [8] = (a0 :: a1 :: a2 :: a3 :: a4 :: a5 :: a6 :: a7 :: none :: r) := rfl
theorem ap_var9 {a0 a1 a2 a3 a4 a5 a6 a7 a8 : Option D} {r : Sg} : eVar 9 (a0 :: a1 :: a2 :: a3 :: a4 :: a5 :: a6 :: a7 :: a8 :: some d :: r) S = .ok d S := rfl
theorem ap_slot9 {a0 a1 a2 a3 a4 a5 a6 a7 a8 : Option D} {x : Option D} {r : Sg} : gSlot 9 d (a0 :: a1 :: a2 :: a3 :: a4 :: a5 :: a6 :: a7 :: a8 :: x :: r) S = .ok (a0 :: a1 :: a2 :: a3 :: a4 :: a5 :: a6 :: a7 :: a8 :: some d :: r) S := rfl
theorem ap_pat9 {a0 a1 a2 a3 a4 a5 a6 a7 a8 : Option D} {x : Option D} {r : Sg} : patD (.slot 9) d (a0 :: a1 :: a2 :: a3 :: a4 :: a5 :: a6 :: a7 :: a8 :: x :: r) = some (a0 :: a1 :: a2 :: a3 :: a4 :: a5 :: a6 :: a7 :: a8 :: some d :: r) := rfl
theorem ap_wipe9 {a0 a1 a2 a3 a4 a5 a6 a7 a8 : Option D} {x : Option D} {r : Sg} : wipeD (a0 :: a1 :: a2 :: a3 :: a4 :: a5 :: a6 :: a7 :: a8 :: x :: r) [9] = (a0 :: a1 :: a2 :: a3 :: a4 :: a5 :: a6 :: a7 :: a8 :: none :: r) := rfl
theorem ap_var10 {a0 a1 a2 a3 a4 a5 a6 a7 a8 a9 : Option D} {r : Sg} : eVar 10 (a0 :: a1 :: a2 :: a3 :: a4 :: a5 :: a6 :: a7 :: a8 :: a9 :: some d :: r) S = .ok d S := rfl
theorem ap_slot10 {a0 a1 a2 a3 a4 a5 a6 a7 a8 a9 : Option D} {x : Option D} {r : Sg} : gSlot 10 d (a0 :: a1 :: a2 :: a3 :: a4 :: a5 :: a6 :: a7 :: a8 :: a9 :: x :: r) S = .ok (a0 :: a1 :: a2 :: a3 :: a4 :: a5 :: a6 :: a7 :: a8 :: a9 :: some d :: r) S := rfl
theorem ap_pat10 {a0 a1 a2 a3 a4 a5 a6 a7 a8 a9 : Option D} {x : Option D} {r : Sg} : patD (.slot 10) d (a0 :: a1 :: a2 :: a3 :: a4 :: a5 :: a6 :: a7 :: a8 :: a9 :: x :: r) = some (a0 :: a1 :: a2 :: a3 :: a4 :: a5 :: a6 :: a7 :: a8 :: a9 :: some d :: r) := rfl
theorem ap_wipe10 {a0 a1 a2 a3 a4 a5 a6 a7 a8 a9 : Option D} {x : Option D} {r : Sg} : wipeD (a0 :: a1 :: a2 :: a3 :: a4 :: a5 :: a6 :: a7 :: a8 :: a9 :: x :: r) [10] = (a0 :: a1 :: a2 :: a3 :: a4 :: a5 :: a6 :: a7 :: a8 :: a9 :: none :: r) := rfl
theorem ap_var11 {a0 a1 a2 a3 a4 a5 a6 a7 a8 a9 a10 : Option D} {r : Sg} : eVar 11 (a0 :: a1 :: a2 :: a3 :: a4 :: a5 :: a6 :: a7 :: a8 :: a9 :: a10 :: some d :: r) S = .ok d S := rfl
theorem ap_slot11 {a0 a1 a2 a3 a4 a5 a6 a7 a8 a9 a10 : Option D} {x : Option D} {r : Sg} : gSlot 11 d (a0 :: a1 :: a2 :: a3 :: a4 :: a5 :: a6 :: a7 :: a8 :: a9 :: a10 :: x :: r) S = .ok (a0 :: a1 :: a2 :: a3 :: a4 :: a5 :: a6 :: a7 :: a8 :: a9 :: a10 :: some d :: r) S := rfl
theorem ap_pat11 {a0 a1 a2 a3 a4 a5 a6 a7 a8 a9 a10 : Option D} {x : Option D} {r : Sg} : patD (.slot 11) d (a0 :: a1 :: a2 :: a3 :: a4 :: a5 :: a6 :: a7 :: a8 :: a9 :: a10 :: x :: r) = some (a0 :: a1 :: a2 :: a3 :: a4 :: a5 :: a6 :: a7 :: a8 :: a9 :: a10 :: some d :: r) := rfl
theorem ap_wipe11 {a0 a1 a2 a3 a4 a5 a6 a7 a8 a9 a10 : Option D} {x : Option D} {r : Sg} : wipeD (a0 :: a1 :: a2 :: a3 :: a4 :: a5 :: a6 :: a7 :: a8 :: a9 :: a10 :: x :: r) [11] = (a0 :: a1 :: a2 :: a3 :: a4 :: a5 :: a6 :: a7 :: a8 :: a9 :: a10 :: none :: r) := rfl
theorem ap_var12 {a0 a1 a2 a3 a4 a5 a6 a7 a8 a9 a10 a11 : Option D} {r : Sg} : eVar 12 (a0 :: a1 :: a2 :: a3 :: a4 :: a5 :: a6 :: a7 :: a8 :: a9 :: a10 :: a11 :: some d :: r) S = .ok d S := rfl
theorem ap_slot12 {a0 a1 a2 a3 a4 a5 a6 a7 a8 a9 a10 a11 : Option D} {x : Option D} {r : Sg} : gSlot 12 d (a0 :: a1 :: a2 :: a3 :: a4 :: a5 :: a6 :: a7 :: a8 :: a9 :: a10 :: a11 :: x :: r) S = .ok (a0 :: a1 :: a2 :: a3 :: a4 :: a5 :: a6 :: a7 :: a8 :: a9 :: a10 :: a11 :: some d :: r) S := rfl
theorem ap_pat12 {a0 a1 a2 a3 a4 a5 a6 a7 a8 a9 a10 a11 : Option D} {x : Option D} {r : Sg} : patD (.slot 12) d (a0 :: a1 :: a2 :: a3 :: a4 :: a5 :: a6 :: a7 :: a8 :: a9 :: a10 :: a11 :: x :: r) = some (a0 :: a1 :: a2 :: a3 :: a4 :: a5 :: a6 :: a7 :: a8 :: a9 :: a10 :: a11 :: some d :: r) := rfl
theorem ap_wipe12 {a0 a1 a2 a3 a4 a5 a6 a7 a8 a9 a10 a11 : Option D} {x : Option D} {r : Sg} : wipeD (a0 :: a1 :: a2 :: a3 :: a4 :: a5 :: a6 :: a7 :: a8 :: a9 :: a10 :: a11 :: x :: r) [12] = (a0 :: a1 :: a2 :: a3 :: a4 :: a5 :: a6 :: a7 :: a8 :: a9 :: a10 :: a11 :: none :: r) := rfl
theorem ap_var13 {a0 a1 a2 a3 a4 a5 a6 a7 a8 a9 a10 a11 a12 : Option D} {r : Sg} : eVar 13 (a0 :: a1 :: a2 :: a3 :: a4 :: a5 :: a6 :: a7 :: a8 :: a9 :: a10 :: a11 :: a12 :: some d :: r) S = .ok d S := rfl
theorem ap_slot13 {a0 a1 a2 a3 a4 a5 a6 a7 a8 a9 a10 a11 a12 : Option D} {x : Option D} {r : Sg} : gSlot 13 d (a0 :: a1 :: a2 :: a3 :: a4 :: a5 :: a6 :: a7 :: a8 :: a9 :: a10 :: a11 :: a12 :: x :: r) S = .ok (a0 :: a1 :: a2 :: a3 :: a4 :: a5 :: a6 :: a7 :: a8 :: a9 :: a10 :: a11 :: a12 :: some d :: r) S := rfl
theorem ap_pat13 {a0 a1 a2 a3 a4 a5 a6 a7 a8 a9 a10 a11 a12 : Option D} {x : Option D} {r : Sg} : patD (.slot 13) d (a0 :: a1 :: a2 :: a3 :: a4 :: a5 :: a6 :: a7 :: a8 :: a9 :: a10 :: a11 :: a12 :: x :: r) = some (a0 :: a1 :: a2 :: a3 :: a4 :: a5 :: a6 :: a7 :: a8 :: a9 :: a10 :: a11 :: a12 :: some d :: r) := rfl
theorem ap_wipe13 {a0 a1 a2 a3 a4 a5 a6 a7 a8 a9 a10 a11 a12 : Option D} {x : Option D} {r : Sg} : wipeD (a0 :: a1 :: a2 :: a3 :: a4 :: a5 :: a6 :: a7 :: a8 :: a9 :: a10 :: a11 :: a12 :: x :: r) [13] = (a0 :: a1 :: a2 :: a3 :: a4 :: a5 :: a6 :: a7 :: a8 :: a9 :: a10 :: a11 :: a12 :: none :: r) := rfl
theorem ap_var14 {a0 a1 a2 a3 a4 a5 a6 a7 a8 a9 a10 a11 a12 a13 : Option D} {r : Sg} : eVar 14 (a0 :: a1 :: a2 :: a3 :: a4 :: a5 :: a6 :: a7 :: a8 :: a9 :: a10 :: a11 :: a12 :: a13 :: some d :: r) S = .ok d S := rfl
theorem ap_slot14 {a0 a1 a2 a3 a4 a5 a6 a7 a8 a9 a10 a11 a12 a13 : Option D} {x : Option D} {r : Sg} : gSlot 14 d (a0 :: a1 :: a2 :: a3 :: a4 :: a5 :: a6 :: a7 :: a8 :: a9 :: a10 :: a11 :: a12 :: a13 :: x :: r) S = .ok (a0 :: a1 :: a2 :: a3 :: a4 :: a5 :: a6 :: a7 :: a8 :: a9 :: a10 :: a11 :: a12 :: a13 :: some d :: r) S := rfl
theorem ap_pat14 {a0 a1 a2 a3 a4 a5 a6 a7 a8 a9 a10 a11 a12 a13 : Option D} {x : Option D} {r : Sg} : patD (.slot 14) d (a0 :: a1 :: a2 :: a3 :: a4 :: a5 :: a6 :: a7 :: a8 :: a9 :: a10 :: a11 :: a12 :: a13 :: x :: r) = some (a0 :: a1 :: a2 :: a3 :: a4 :: a5 :: a6 :: a7 :: a8 :: a9 :: a10 :: a11 :: a12 :: a13 :: some d :: r) := rfl
theorem ap_wipe14 {a0 a1 a2 a3 a4 a5 a6 a7 a8 a9 a10 a11 a12 a13 : Option D} {x : Option D} {r : Sg} : wipeD (a0 :: a1 :: a2 :: a3 :: a4 :: a5 :: a6 :: a7 :: a8 :: a9 :: a10 :: a11 :: a12 :: a13 :: x :: r) [14] = (a0 :: a1 :: a2 :: a3 :: a4 :: a5 :: a6 :: a7 :: a8 :: a9 :: a10 :: a11 :: a12 :: a13 :: none :: r) := rfl
theorem ap_var15 {a0 a1 a2 a3 a4 a5 a6 a7 a8 a9 a10 a11 a12 a13 a14 : Option D} {r : Sg} : eVar 15 (a0 :: a1 :: a2 :: a3 :: a4 :: a5 :: a6 :: a7 :: a8 :: a9 :: a10 :: a11 :: a12 :: a13 :: a14 :: some d :: r) S = .ok d S := rfl
theorem ap_slot15 {a0 a1 a2 a3 a4 a5 a6 a7 a8 a9 a10 a11 a12 a13 a14 : Option D} {x : Option D} {r : Sg} : gSlot 15 d (a0 :: a1 :: a2 :: a3 :: a4 :: a5 :: a6 :: a7 :: a8 :: a9 :: a10 :: a11 :: a12 :: a13 :: a14 :: x :: r) S = .ok (a0 :: a1 :: a2 :: a3 :: a4 :: a5 :: a6 :: a7 :: a8 :: a9 :: a10 :: a11 :: a12 :: a13 :: a14 :: some d :: r) S := rfl
theorem ap_pat15 {a0 a1 a2 a3 a4 a5 a6 a7 a8 a9 a10 a11 a12 a13 a14 : Option D} {x : Option D} {r : Sg} : patD (.slot 15) d (a0 :: a1 :: a2 :: a3 :: a4 :: a5 :: a6 :: a7 :: a8 :: a9 :: a10 :: a11 :: a12 :: a13 :: a14 :: x :: r) = some (a0 :: a1 :: a2 :: a3 :: a4 :: a5 :: a6 :: a7 :: a8 :: a9 :: a10 :: a11 :: a12 :: a13 :: a14 :: some d :: r) := rfl
theorem ap_wipe15 {a0 a1 a2 a3 a4 a5 a6 a7 a8 a9 a10 a11 a12 a13 a14 : Option D} {x : Option D} {r : Sg} : wipeD (a0 :: a1 :: a2 :: a3 :: a4 :: a5 :: a6 :: a7 :: a8 :: a9 :: a10 :: a11 :: a12 :: a13 :: a14 :: x :: r) [15] = (a0 :: a1 :: a2 :: a3 :: a4 :: a5 :: a6 :: a7 :: a8 :: a9 :: a10 :: a11 :: a12 :: a13 :: a14 :: none :: r) := rfl
abbrev nons (k : Nat) : Sg := List.replicate k none
theorem ap_run0_0 : runB 0 0 fs [] S = endD (fs [] S) := rfl
theorem ap_run1_0 : runB 1 0 fs [] S = endD (fs [none] S) := rfl
theorem ap_run2_0 : runB 2 0 fs [] S = endD (fs [none, none] S) := rfl
theorem ap_run3_0 : runB 3 0 fs [] S = endD (fs [none, none, none] S) := rfl
theorem ap_run4_0 : runB 4 0 fs [] S = endD (fs [none, none, none, none] S) := rfl
theorem ap_run5_0 : runB 5 0 fs [] S = endD (fs [none, none, none, none, none] S) := rfl
theorem ap_run6_0 : runB 6 0 fs [] S = endD (fs [none, none, none, none, none, none] S) := rfl
theorem ap_run7_0 : runB 7 0 fs [] S = endD (fs [none, none, none, none, none, none, none] S) := rfl
theorem ap_run8_0 : runB 8 0 fs [] S = endD (fs [none, none, none, none, none, none, none, none] S) := rfl
theorem ap_run9_0 : runB 9 0 fs [] S = endD (fs [none, none, none, none, none, none, none, none, none] S) := rfl
theorem ap_run10_0 : runB 10 0 fs [] S = endD (fs [none, none, none, none, none, none, none, none, none, none] S) := rfl
theorem ap_run11_0 : runB 11 0 fs [] S = endD (fs [none, none, none, none, none, none, none, none, none, none, none] S) := rfl
theorem ap_run12_0 : runB 12 0 fs [] S = endD (fs [none, none, none, none, none, none, none, none, none, none, none, none] S) := rfl
theorem ap_run13_0 : runB 13 0 fs [] S = endD (fs [none, none, none, none, none, none, none, none, none, none, none, none, none] S) := rfl
theorem ap_run14_0 : runB 14 0 fs [] S = endD (fs [none, none, none, none, none, none, none, none, none, none, none, none, none, none] S) := rfl
theorem ap_run15_0 : runB 15 0 fs [] S = endD (fs [none, none, none, none, none, none, none, none, none, none, none, none, none, none, none] S) := rfl
theorem ap_run1_1 {d0 : D} : runB 1 1 fs [d0] S = endD (fs [some d0] S) := rfl
theorem ap_run2_1 {d0 : D} : runB 2 1 fs [d0] S = endD (fs [some d0, none] S) := rfl
theorem ap_run3_1 {d0 : D} : runB 3 1 fs [d0] S = endD (fs [some d0, none, none] S) := rfl
theorem ap_run4_1 {d0 : D} : runB 4 1 fs [d0] S = endD (fs [some d0, none, none, none] S) := rfl
theorem ap_run5_1 {d0 : D} : runB 5 1 fs [d0] S = endD (fs [some d0, none, none, none, none] S) := rfl
theorem ap_run6_1 {d0 : D} : runB 6 1 fs [d0] S = endD (fs [some d0, none, none, none, none, none] S) := rfl
theorem ap_run7_1 {d0 : D} : runB 7 1 fs [d0] S = endD (fs [some d0, none, none, none, none, none, none] S) := rfl
theorem ap_run8_1 {d0 : D} : runB 8 1 fs [d0] S = endD (fs [some d0, none, none, none, none, none, none, none] S) := rfl
theorem ap_run9_1 {d0 : D} : runB 9 1 fs [d0] S = endD (fs [some d0, none, none, none, none, none, none, none, none] S) := rfl
theorem ap_run10_1 {d0 : D} : runB 10 1 fs [d0] S = endD (fs [some d0, none, none, none, none, none, none, none, none, none] S) := rfl
theorem ap_run11_1 {d0 : D} : runB 11 1 fs [d0] S = endD (fs [some d0, none, none, none, none, none, none, none, none, none, none] S) := rfl
theorem ap_run12_1 {d0 : D} : runB 12 1 fs [d0] S = endD (fs [some d0, none, none, none, none, none, none, none, none, none, none, none] S) := rfl
theorem ap_run13_1 {d0 : D} : runB 13 1 fs [d0] S = endD (fs [some d0, none, none, none, none, none, none, none, none, none, none, none, none] S) := rfl
theorem ap_run14_1 {d0 : D} : runB 14 1 fs [d0] S = endD (fs [some d0, none, none, none, none, none, none, none, none, none, none, none, none, none] S) := rfl
theorem ap_run15_1 {d0 : D} : runB 15 1 fs [d0] S = endD (fs [some d0, none, none, none, none, none, none, none, none, none, none, none, none, none, none] S) := rfl
theorem ap_run2_2 {d0 d1 : D} : runB 2 2 fs [d0, d1] S = endD (fs [some d0, some d1] S) := rfl
theorem ap_run3_2 {d0 d1 : D} : runB 3 2 fs [d0, d1] S = endD (fs [some d0, some d1, none] S) := rfl
theorem ap_run4_2 {d0 d1 : D} : runB 4 2 fs [d0, d1] S = endD (fs [some d0, some d1, none, none] S) := rfl
theorem ap_run5_2 {d0 d1 : D} : runB 5 2 fs [d0, d1] S = endD (fs [some d0, some d1, none, none, none] S) := rfl
theorem ap_run6_2 {d0 d1 : D} : runB 6 2 fs [d0, d1] S = endD (fs [some d0, some d1, none, none, none, none] S) := rfl
theorem ap_run7_2 {d0 d1 : D} : runB 7 2 fs [d0, d1] S = endD (fs [some d0, some d1, none, none, none, none, none] S) := rfl
theorem ap_run8_2 {d0 d1 : D} : runB 8 2 fs [d0, d1] S = endD (fs [some d0, some d1, none, none, none, none, none, none] S) := rfl
theorem ap_run9_2 {d0 d1 : D} : runB 9 2 fs [d0, d1] S = endD (fs [some d0, some d1, none, none, none, none, none, none, none] S) := rfl
theorem ap_run10_2 {d0 d1 : D} : runB 10 2 fs [d0, d1] S = endD (fs [some d0, some d1, none, none, none, none, none, none, none, none] S) := rfl
theorem ap_run11_2 {d0 d1 : D} : runB 11 2 fs [d0, d1] S = endD (fs [some d0, some d1, none, none, none, none, none, none, none, none, none] S) := rfl
theorem ap_run12_2 {d0 d1 : D} : runB 12 2 fs [d0, d1] S = endD (fs [some d0, some d1, none, none, none, none, none, none, none, none, none, none] S) := rfl
theorem ap_run13_2 {d0 d1 : D} : runB 13 2 fs [d0, d1] S = endD (fs [some d0, some d1, none, none, none, none, none, none, none, none, none, none, none] S) := rfl
theorem ap_run14_2 {d0 d1 : D} : runB 14 2 fs [d0, d1] S = endD (fs [some d0, some d1, none, none, none, none, none, none, none, none, none, none, none, none] S) := rfl
theorem ap_run15_2 {d0 d1 : D} : runB 15 2 fs [d0, d1] S = endD (fs [some d0, some d1, none, none, none, none, none, none, none, none, none, none, none, none, none] S) := rfl
theorem ap_run3_3 {d0 d1 d2 : D} : runB 3 3 fs [d0, d1, d2] S = endD (fs [some d0, some d1, some d2] S) := rfl
theorem ap_run4_3 {d0 d1 d2 : D} : runB 4 3 fs [d0, d1, d2] S = endD (fs [some d0, some d1, some d2, none] S) := rfl
theorem ap_run5_3 {d0 d1 d2 : D} : runB 5 3 fs [d0, d1, d2] S = endD (fs [some d0, some d1, some d2, none, none] S) := rfl
theorem ap_run6_3 {d0 d1 d2 : D} : runB 6 3 fs [d0, d1, d2] S = endD (fs [some d0, some d1, some d2, none, none, none] S) := rfl
theorem ap_run7_3 {d0 d1 d2 : D} : runB 7 3 fs [d0, d1, d2] S = endD (fs [some d0, some d1, some d2, none, none, none, none] S) := rfl
theorem ap_run8_3 {d0 d1 d2 : D} : runB 8 3 fs [d0, d1, d2] S = endD (fs [some d0, some d1, some d2, none, none, none, none, none] S) := rfl
theorem ap_run9_3 {d0 d1 d2 : D} : runB 9 3 fs [d0, d1, d2] S = endD (fs [some d0, some d1, some d2, none, none, none, none, none, none] S) := rfl
theorem ap_run10_3 {d0 d1 d2 : D} : runB 10 3 fs [d0, d1, d2] S = endD (fs [some d0, some d1, some d2, none, none, none, none, none, none, none] S) := rfl
theorem ap_run11_3 {d0 d1 d2 : D} : runB 11 3 fs [d0, d1, d2] S = endD (fs [some d0, some d1, some d2, none, none, none, none, none, none, none, none] S) := rfl
theorem ap_run12_3 {d0 d1 d2 : D} : runB 12 3 fs [d0, d1, d2] S = endD (fs [some d0, some d1, some d2, none, none, none, none, none, none, none, none, none] S) := rfl
theorem ap_run13_3 {d0 d1 d2 : D} : runB 13 3 fs [d0, d1, d2] S = endD (fs [some d0, some d1, some d2, none, none, none, none, none, none, none, none, none, none] S) := rfl
theorem ap_run14_3 {d0 d1 d2 : D} : runB 14 3 fs [d0, d1, d2] S = endD (fs [some d0, some d1, some d2, none, none, none, none, none, none, none, none, none, none, none] S) := rfl
theorem ap_run15_3 {d0 d1 d2 : D} : runB 15 3 fs [d0, d1, d2] S = endD (fs [some d0, some d1, some d2, none, none, none, none, none, none, none, none, none, none, none, none] S) := rfl
theorem ap_run4_4 {d0 d1 d2 d3 : D} : runB 4 4 fs [d0, d1, d2, d3] S = endD (fs [some d0, some d1, some d2, some d3] S) := rfl
theorem ap_run5_4 {d0 d1 d2 d3 : D} : runB 5 4 fs [d0, d1, d2, d3] S = endD (fs [some d0, some d1, some d2, some d3, none] S) := rfl
theorem ap_run6_4 {d0 d1 d2 d3 : D} : runB 6 4 fs [d0, d1, d2, d3] S = endD (fs [some d0, some d1, some d2, some d3, none, none] S) := rfl
theorem ap_run7_4 {d0 d1 d2 d3 : D} : runB 7 4 fs [d0, d1, d2, d3] S = endD (fs [some d0, some d1, some d2, some d3, none, none, none] S) := rfl
theorem ap_run8_4 {d0 d1 d2 d3 : D} : runB 8 4 fs [d0, d1, d2, d3] S = endD (fs [some d0, some d1, some d2, some d3, none, none, none, none] S) := rfl
theorem ap_run9_4 {d0 d1 d2 d3 : D} : runB 9 4 fs [d0, d1, d2, d3] S = endD (fs [some d0, some d1, some d2, some d3, none, none, none, none, none] S) := rfl
theorem ap_run10_4 {d0 d1 d2 d3 : D} : runB 10 4 fs [d0, d1, d2, d3] S = endD (fs [some d0, some d1, some d2, some d3, none, none, none, none, none, none] S) := rfl
theorem ap_run11_4 {d0 d1 d2 d3 : D} : runB 11 4 fs [d0, d1, d2, d3] S = endD (fs [some d0, some d1, some d2, some d3, none, none, none, none, none, none, none] S) := rfl
theorem ap_run12_4 {d0 d1 d2 d3 : D} : runB 12 4 fs [d0, d1, d2, d3] S = endD (fs [some d0, some d1, some d2, some d3, none, none, none, none, none, none, none, none] S) := rfl
theorem ap_run13_4 {d0 d1 d2 d3 : D} : runB 13 4 fs [d0, d1, d2, d3] S = endD (fs [some d0, some d1, some d2, some d3, none, none, none, none, none, none, none, none, none] S) := rfl
theorem ap_run14_4 {d0 d1 d2 d3 : D} : runB 14 4 fs [d0, d1, d2, d3] S = endD (fs [some d0, some d1, some d2, some d3, none, none, none, none, none, none, none, none, none, none] S) := rfl
theorem ap_run15_4 {d0 d1 d2 d3 : D} : runB 15 4 fs [d0, d1, d2, d3] S = endD (fs [some d0, some d1, some d2, some d3, none, none, none, none, none, none, none, none, none, none, none] S) := rfl
theorem ap_run5_5 {d0 d1 d2 d3 d4 : D} : runB 5 5 fs [d0, d1, d2, d3, d4] S = endD (fs [some d0, some d1, some d2, some d3, some d4] S) := rfl
theorem ap_run6_5 {d0 d1 d2 d3 d4 : D} : runB 6 5 fs [d0, d1, d2, d3, d4] S = endD (fs [some d0, some d1, some d2, some d3, some d4, none] S) := rfl
theorem ap_run7_5 {d0 d1 d2 d3 d4 : D} : runB 7 5 fs [d0, d1, d2, d3, d4] S = endD (fs [some d0, some d1, some d2, some d3, some d4, none, none] S) := rfl
theorem ap_run8_5 {d0 d1 d2 d3 d4 : D} : runB 8 5 fs [d0, d1, d2, d3, d4] S = endD (fs [some d0, some d1, some d2, some d3, some d4, none, none, none] S) := rfl
theorem ap_run9_5 {d0 d1 d2 d3 d4 : D} : runB 9 5 fs [d0, d1, d2, d3, d4] S = endD (fs [some d0, some d1, some d2, some d3, some d4, none, none, none, none] S) := rfl
theorem ap_run10_5 {d0 d1 d2 d3 d4 : D} : runB 10 5 fs [d0, d1, d2, d3, d4] S = endD (fs [some d0, some d1, some d2, some d3, some d4, none, none, none, none, none] S) := rfl
theorem ap_run11_5 {d0 d1 d2 d3 d4 : D} : runB 11 5 fs [d0, d1, d2, d3, d4] S = endD (fs [some d0, some d1, some d2, some d3, some d4, none, none, none, none, none, none] S) := rfl
theorem ap_run12_5 {d0 d1 d2 d3 d4 : D} : runB 12 5 fs [d0, d1, d2, d3, d4] S = endD (fs [some d0, some d1, some d2, some d3, some d4, none, none, none, none, none, none, none] S) := rfl
theorem ap_run13_5 {d0 d1 d2 d3 d4 : D} : runB 13 5 fs [d0, d1, d2, d3, d4] S = endD (fs [some d0, some d1, some d2, some d3, some d4, none, none, none, none, none, none, none, none] S) := rfl
theorem ap_run14_5 {d0 d1 d2 d3 d4 : D} : runB 14 5 fs [d0, d1, d2, d3, d4] S = endD (fs [some d0, some d1, some d2, some d3, some d4, none, none, none, none, none, none, none, none, none] S) := rfl
theorem ap_run15_5 {d0 d1 d2 d3 d4 : D} : runB 15 5 fs [d0, d1, d2, d3, d4] S = endD (fs [some d0, some d1, some d2, some d3, some d4, none, none, none, none, none, none, none, none, none, none] S) := rfl
theorem ap_run6_6 {d0 d1 d2 d3 d4 d5 : D} : runB 6 6 fs [d0, d1, d2, d3, d4, d5] S = endD (fs [some d0, some d1, some d2, some d3, some d4, some d5] S) := rfl
theorem ap_run7_6 {d0 d1 d2 d3 d4 d5 : D} : runB 7 6 fs [d0, d1, d2, d3, d4, d5] S = endD (fs [some d0, some d1, some d2, some d3, some d4, some d5, none] S) := rfl
theorem ap_run8_6 {d0 d1 d2 d3 d4 d5 : D} : runB 8 6 fs [d0, d1, d2, d3, d4, d5] S = endD (fs [some d0, some d1, some d2, some d3, some d4, some d5, none, none] S) := rfl
theorem ap_run9_6 {d0 d1 d2 d3 d4 d5 : D} : runB 9 6 fs [d0, d1, d2, d3, d4, d5] S = endD (fs [some d0, some d1, some d2, some d3, some d4, some d5, none, none, none] S) := rfl
theorem ap_run10_6 {d0 d1 d2 d3 d4 d5 : D} : runB 10 6 fs [d0, d1, d2, d3, d4, d5] S = endD (fs [some d0, some d1, some d2, some d3, some d4, some d5, none, none, none, none] S) := rfl
theorem ap_run11_6 {d0 d1 d2 d3 d4 d5 : D} : runB 11 6 fs [d0, d1, d2, d3, d4, d5] S = endD (fs [some d0, some d1, some d2, some d3, some d4, some d5, none, none, none, none, none] S) := rfl
theorem ap_run12_6 {d0 d1 d2 d3 d4 d5 : D} : runB 12 6 fs [d0, d1, d2, d3, d4, d5] S = endD (fs [some d0, some d1, some d2, some d3, some d4, some d5, none, none, none, none, none, none] S) := rfl
theorem ap_run13_6 {d0 d1 d2 d3 d4 d5 : D} : runB 13 6 fs [d0, d1, d2, d3, d4, d5] S = endD (fs [some d0, some d1, some d2, some d3, some d4, some d5, none, none, none, none, none, none, none] S) := rfl
theorem ap_run14_6 {d0 d1 d2 d3 d4 d5 : D} : runB 14 6 fs [d0, d1, d2, d3, d4, d5] S = endD (fs [some d0, some d1, some d2, some d3, some d4, some d5, none, none, none, none, none, none, none, none] S) := rfl
theorem ap_run15_6 {d0 d1 d2 d3 d4 d5 : D} : runB 15 6 fs [d0, d1, d2, d3, d4, d5] S = endD (fs [some d0, some d1, some d2, some d3, some d4, some d5, none, none, none, none, none, none, none, none, none] S) := rfl
theorem ap_run7_7 {d0 d1 d2 d3 d4 d5 d6 : D} : runB 7 7 fs [d0, d1, d2, d3, d4, d5, d6] S = endD (fs [some d0, some d1, some d2, some d3, some d4, some d5, some d6] S) := rfl
theorem ap_run8_7 {d0 d1 d2 d3 d4 d5 d6 : D} : runB 8 7 fs [d0, d1, d2, d3, d4, d5, d6] S = endD (fs [some d0, some d1, some d2, some d3, some d4, some d5, some d6, none] S) := rfl
theorem ap_run9_7 {d0 d1 d2 d3 d4 d5 d6 : D} : runB 9 7 fs [d0, d1, d2, d3, d4, d5, d6] S = endD (fs [some d0, some d1, some d2, some d3, some d4, some d5, some d6, none, none] S) := rfl
theorem ap_run10_7 {d0 d1 d2 d3 d4 d5 d6 : D} : runB 10 7 fs [d0, d1, d2, d3, d4, d5, d6] S = endD (fs [some d0, some d1, some d2, some d3, some d4, some d5, some d6, none, none, none] S) := rfl
theorem ap_run11_7 {d0 d1 d2 d3 d4 d5 d6 : D} : runB 11 7 fs [d0, d1, d2, d3, d4, d5, d6] S = endD (fs [some d0, some d1, some d2, some d3, some d4, some d5, some d6, none, none, none, none] S) := rfl
theorem ap_run12_7 {d0 d1 d2 d3 d4 d5 d6 : D} : runB 12 7 fs [d0, d1, d2, d3, d4, d5, d6] S = endD (fs [some d0, some d1, some d2, some d3, some d4, some d5, some d6, none, none, none, none, none] S) := rfl
theorem ap_run13_7 {d0 d1 d2 d3 d4 d5 d6 : D} : runB 13 7 fs [d0, d1, d2, d3, d4, d5, d6] S = endD (fs [some d0, some d1, some d2, some d3, some d4, some d5, some d6, none, none, none, none, none, none] S) := rfl
theorem ap_run14_7 {d0 d1 d2 d3 d4 d5 d6 : D} : runB 14 7 fs [d0, d1, d2, d3, d4, d5, d6] S = endD (fs [some d0, some d1, some d2, some d3, some d4, some d5, some d6, none, none, none, none, none, none, none] S) := rfl
theorem ap_run15_7 {d0 d1 d2 d3 d4 d5 d6 : D} : runB 15 7 fs [d0, d1, d2, d3, d4, d5, d6] S = endD (fs [some d0, some d1, some d2, some d3, some d4, some d5, some d6, none, none, none, none, none, none, none, none] S) := rfl
end
end Ev
namespace Ev
open PySem PySem.Spec L2
/-! ### choices -/
def onB {α : Type} (o : Option Bool) (k : Bool → Res α) : Res α := match o with
  | some b => k b
  | none => .no
class KontB (α : Type) where
  k : Bool → Res α
def onBI {α : Type} (o : Option Bool) [f : KontB α] : Res α := onB o f.k
theorem onB_toI {α : Type} (o : Option Bool) (k : Bool → Res α) : onB o k = @onBI α o ⟨k⟩ := rfl
theorem onBI_some {α : Type} (b : Bool) (k : Bool → Res α) : @onBI α (some b) ⟨k⟩ = k b := rfl
theorem onB_some {α : Type} (b : Bool) (k : Bool → Res α) : onB (some b) k = k b := rfl
def blOf : D → Option Bool
  | .bl b => some b
  | _ => none
theorem blOf_bl (b : Bool) : blOf (.bl b) = some b := rfl
section
variable {f g h : F1} {t u : FT} {σ : Sg} {S : Sto} {d : D} {op op' : Op2}
theorem ap_eTru' : eTru f σ S = (f σ S).bind fun d S1 => onB (tru d S1) fun b => .ok b S1 := by
  unfold eTru
  congr
theorem ap_eNot' : eNot f σ S = (f σ S).bind fun d S1 => onB (tru d S1) fun b => .ok (.bl (!b)) S1 := by
  unfold eNot
  congr
theorem ap_eAnd' : eAnd f g σ S = (f σ S).bind fun d S1 => onB (tru d S1) fun b => if b = true then g σ S1 else .ok d S1 := by
  unfold eAnd
  congr
  funext d S1
  cases tru d S1 with
  | none => rfl
  | some b => cases b <;> rfl
theorem ap_eOr' : eOr f g σ S = (f σ S).bind fun d S1 => onB (tru d S1) fun b => if b = true then .ok d S1 else g σ S1 := by
  unfold eOr
  congr
  funext d S1
  cases tru d S1 with
  | none => rfl
  | some b => cases b <;> rfl
theorem ap_eChain' : eChain op op' f g h σ S = (f σ S).bind fun x S1 => (g σ S1).bind fun y S2 => (op x y S2).bind fun z S3 => onB (blOf z) fun b => if b = true then (h σ S3).bind fun w S4 => op' y w S4 else .ok (.bl false) S3 := by
  unfold eChain
  congr
  funext x S1
  congr
  funext y S2
  congr
  funext z S3
  cases z with
  | bl b => cases b <;> rfl
  | _ => rfl
end
theorem tru_bl (b : Bool) (S : Sto) : tru (.bl b) S = some b := rfl
theorem tru_int (i : Int) (S : Sto) : tru (.int i) S = some (i != 0) := rfl
theorem tru_tup (xs : List D) (S : Sto) : tru (.tup xs) S = some (!xs.isEmpty) := rfl
theorem tru_lst (xs : List D) (S : Sto) : tru (.lst xs) S = some (!xs.isEmpty) := rfl
theorem tru_non (S : Sto) : tru .non S = some false := rfl
/-- joined answers -/
theorem mg_and (b c : Bool) (S : Sto) : (if b = true then Res.ok (D.bl c) S else Res.ok (D.bl b) S) = .ok (.bl (b && c)) S := by cases b <;> rfl
theorem mg_chain (b c : Bool) (S : Sto) : (if b = true then Res.ok (D.bl c) S else Res.ok (D.bl false) S) = .ok (.bl (b && c)) S := by cases b <;> rfl
theorem mg_or (b c : Bool) (S : Sto) : (if b = true then Res.ok (D.bl b) S else Res.ok (D.bl c) S) = .ok (.bl (b || c)) S := by cases b <;> rfl
theorem mg_andT (b c : Bool) (S : Sto) : (if b = true then Res.ok c S else Res.ok false S) = .ok (b && c) S := by cases b <;> rfl
theorem mg_orT (b c : Bool) (S : Sto) : (if b = true then Res.ok true S else Res.ok c S) = .ok (b || c) S := by cases b <;> rfl
/-! ### operations on ints -/
section
variable {i j : Int} {S : Sto}
theorem o_le : opLe (.int i) (.int j) S = .ok (.bl (decide (i ≤ j))) S := rfl
theorem o_lt : opLt (.int i) (.int j) S = .ok (.bl (decide (i < j))) S := rfl
theorem o_ge : opGe (.int i) (.int j) S = .ok (.bl (decide (j ≤ i))) S := rfl
theorem o_gt : opGt (.int i) (.int j) S = .ok (.bl (decide (j < i))) S := rfl
theorem o_sub : opSub (.int i) (.int j) S = .ok (.int (i - j)) S := rfl
theorem o_add : opAdd (.int i) (.int j) S = .ok (.int (i + j)) S := rfl
theorem o_eqI : opEq (.int i) (.int j) S = .ok (.bl (i == j)) S := rfl
theorem o_neI : opNe (.int i) (.int j) S = .ok (.bl (!(i == j))) S := rfl
theorem o_eqB {a b : Bool} : opEq (.bl a) (.bl b) S = .ok (.bl (a == b)) S := rfl
theorem o_neB {a b : Bool} : opNe (.bl a) (.bl b) S = .ok (.bl (!(a == b))) S := rfl
theorem o_mod (h : 0 < j) : opMod (.int i) (.int j) S = .ok (.int (i % j)) S := by
  show (match (if 0 < j then some (D.int (i % j)) else none) with | some d => Res.ok d S | none => .no) = _
  rw [if_pos h]
theorem o_lenT {xs : List D} : opLenU [.tup xs] S = .ok (.int xs.length) S := rfl
theorem o_lenL {xs : List D} : opLenU [.lst xs] S = .ok (.int xs.length) S := rfl
theorem o_lenS {xs : List D} : opLenU [.scr xs] S = .ok (.int xs.length) S := rfl
theorem o_lenD {xs : List (Key × D)} : opLenU [.dk xs] S = .ok (.int xs.length) S := rfl
theorem o_listT {xs : List D} : opListU [.tup xs] S = .ok (.lst xs) S := rfl
theorem o_listL {xs : List D} : opListU [.lst xs] S = .ok (.lst xs) S := rfl
theorem o_listD {xs : List (Key × D)} : opListU [.dk xs] S = .ok (.lst (keysD xs)) S := rfl
theorem o_tupL {xs : List D} : opTuple [.lst xs] S = .ok (.tup xs) S := rfl
theorem o_tupT {xs : List D} : opTuple [.tup xs] S = .ok (.tup xs) S := rfl
theorem o_revT {f : F1} {σ : Sg} {xs : List D} {S1 : Sto} (h : f σ S = .ok (.tup xs) S1) : eRev f σ S = .ok (.tup xs.reverse) S1 := by
  unfold eRev
  rw [h]
end
/-! ### numbers as data -/
abbrev ni (n : Nat) : D := .int (n : Int)
def nis (l : List Nat) : List D := l.map ni
def fil (n : Nat) (p : Nat → Bool) : List Nat := (List.range n).filter p
theorem nis_nil : nis [] = [] := rfl
theorem nis_len (l : List Nat) : (nis l).length = l.length := List.length_map ..
theorem nis_cons (a : Nat) (l : List Nat) : nis (a :: l) = ni a :: nis l := rfl
theorem nis_app (a b : List Nat) : nis (a ++ b) = nis a ++ nis b := List.map_append ..
theorem nis_rev (a : List Nat) : nis a.reverse = (nis a).reverse := List.map_reverse
theorem nis_inj {a b : List Nat} : nis a = nis b ↔ a = b := by
  constructor
  · intro h
    induction a generalizing b with
    | nil => cases b with
      | nil => rfl
      | cons _ _ => cases h
    | cons x a ih => cases b with
      | nil => cases h
      | cons y b =>
        have h1 : ni x :: nis a = ni y :: nis b := h
        injection h1 with h2 h3
        have h4 : (x : Int) = y := by injection h2
        rw [ih h3, Int.ofNat.inj h4]
  · intro h
    rw [h]
theorem mem_fil {n : Nat} {p : Nat → Bool} {i : Nat} : i ∈ fil n p ↔ i < n ∧ p i = true := by
  unfold fil
  rw [List.mem_filter, List.mem_range]
theorem fil_nodup (n : Nat) (p : Nat → Bool) : (fil n p).Nodup := List.Pairwise.filter _ List.nodup_range
theorem fil_len (n : Nat) (p : Nat → Bool) : (fil n p).length ≤ n := by
  have := List.length_filter_le p (List.range n)
  rw [List.length_range] at this
  exact this
theorem fil_congr {n : Nat} {p q : Nat → Bool} (h : ∀ i, i < n → p i = q i) : fil n p = fil n q := by
  unfold fil
  exact List.filter_congr fun x hx => h x (List.mem_range.mp hx)
theorem fil_inj {n : Nat} {p q : Nat → Bool} (h : fil n p = fil n q) (i : Nat) (hi : i < n) : p i = q i := by
  have e : (i ∈ fil n p) ↔ (i ∈ fil n q) := by rw [h]
  rw [mem_fil, mem_fil] at e
  cases hp : p i <;> cases hq : q i <;> simp_all
theorem fil_fil {n : Nat} {p q : Nat → Bool} : (fil n p).filter q = fil n (fun i => p i && q i) := by
  unfold fil
  rw [List.filter_filter]
  congr
  funext i
  exact Bool.and_comm _ _
theorem fil_all {n : Nat} : fil n (fun _ => true) = List.range n := by
  unfold fil
  exact List.filter_eq_self.mpr fun _ _ => rfl
theorem mapO_nis (l : List Nat) : mapO asInt (nis l) = some (l.map fun (i : Nat) => (i : Int)) := by
  induction l with
  | nil => rfl
  | cons a l ih => simp only [nis_cons, mapO, asInt, ih, List.map_cons]
theorem mapO_bls (l : List Bool) : mapO asBl (l.map D.bl) = some l := by
  induction l with
  | nil => rfl
  | cons a l ih => simp only [List.map_cons, mapO, asBl, ih]
theorem o_all {l : List Bool} {S : Sto} : opAll [.lst (l.map D.bl)] S = .ok (.bl (l.all id)) S := by
  simp only [opAll, seqA, mapO_bls]
theorem o_any {l : List Bool} {S : Sto} : opAny [.lst (l.map D.bl)] S = .ok (.bl (l.any id)) S := by
  simp only [opAny, seqA, mapO_bls]
/-! ### in -/
theorem flat_nis (l : List Nat) : (nis l).all flatD = true := by
  unfold nis
  rw [List.all_map]
  exact List.all_eq_true.mpr fun _ _ => rfl
theorem any_nis (l : List Nat) (k : Nat) : ((nis l).any fun z => eqF z (ni k)) = l.contains k := by
  induction l with
  | nil => rfl
  | cons a l ih =>
    rw [nis_cons, List.any_cons, ih, List.contains_cons]
    congr 1
    show ((a : Int) == (k : Int)) = (k == a)
    rw [Bool.eq_iff_iff, beq_iff_eq, beq_iff_eq]
    omega
theorem o_inN {k : Nat} {l : List Nat} {S : Sto} : opInA (ni k) (.tup (nis l)) S = .ok (.bl (l.contains k)) S := by
  show (if (flatD (ni k) && (nis l).all flatD) = true then Res.ok (D.bl ((nis l).any fun z => eqF z (ni k))) S else .no) = _
  rw [flat_nis, any_nis]
  rfl
theorem o_notInN {k : Nat} {l : List Nat} {S : Sto} : opNotInA (ni k) (.tup (nis l)) S = .ok (.bl (!l.contains k)) S := by
  show (if (flatD (ni k) && (nis l).all flatD) = true then Res.ok (D.bl (!(nis l).any fun z => eqF z (ni k))) S else .no) = _
  rw [flat_nis, any_nis]
  rfl
theorem o_inNL {k : Nat} {l : List Nat} {S : Sto} : opInA (ni k) (.lst (nis l)) S = .ok (.bl (l.contains k)) S := by
  show (if (flatD (ni k) && (nis l).all flatD) = true then Res.ok (D.bl ((nis l).any fun z => eqF z (ni k))) S else .no) = _
  rw [flat_nis, any_nis]
  rfl
theorem o_notInNL {k : Nat} {l : List Nat} {S : Sto} : opNotInA (ni k) (.lst (nis l)) S = .ok (.bl (!l.contains k)) S := by
  show (if (flatD (ni k) && (nis l).all flatD) = true then Res.ok (D.bl (!(nis l).any fun z => eqF z (ni k))) S else .no) = _
  rw [flat_nis, any_nis]
  rfl
/-! ### comprehensions that leave the store -/
def cpick {α β : Type} (p : α → Bool) (e : α → β) : List α → List β
  | [] => []
  | x :: r => if p x = true then e x :: cpick p e r else cpick p e r
theorem cpick_eq {α β : Type} (p : α → Bool) (e : α → β) (l : List α) : cpick p e l = (l.filter p).map e := by
  induction l with
  | nil => rfl
  | cons x r ih =>
    unfold cpick
    rw [List.filter_cons]
    split
    · rw [List.map_cons, ih]
    · exact ih
theorem lcG_pure {α : Type} (turn : D → Sto → Res (Option D)) (enc : α → D) (p : α → Bool) (e : α → D) (S : Sto) : ∀ l : List α, (∀ x ∈ l, turn (enc x) S = .ok (if p x = true then some (e x) else none) S) → lcG turn (l.map enc) S = .ok (cpick p e l) S
  | [], _ => rfl
  | x :: r, h => by
    show ((turn (enc x) S).bind fun o S1 => (lcG turn (r.map enc) S1).bind fun ys S2 => .ok (consO o ys) S2) = _
    rw [h x List.mem_cons_self]
    show ((lcG turn (r.map enc) S).bind fun ys S2 => Res.ok (consO _ ys) S2) = _
    rw [lcG_pure turn enc p e S r fun y hy => h y (List.mem_cons_of_mem _ hy)]
    show Res.ok (consO (if p x = true then some (e x) else none) (cpick p e r)) S = Res.ok (if p x = true then e x :: cpick p e r else cpick p e r) S
    split <;> rfl
/-- [e x for x in l if p x] -/
theorem eLc_pure {α : Type} {fi : FI} {pt : Pat} {ft : FT} {fe : F1} {own : List Nat} {σ : Sg} {S : Sto} (enc : α → D) (p : α → Bool) (e : α → D) (l : List α) (hi : fi σ S = .ok (l.map enc) S) (hl : l.length < line)
    (ht : ∀ x ∈ l, lcTurn pt ft fe (wipeD σ own) (enc x) S = .ok (if p x = true then some (e x) else none) S) : eLc fi pt ft fe own σ S = .ok (.lst ((l.filter p).map e)) S := by
  show ((fi σ S).bind fun items S1 => if items.length < line then (lcG (lcTurn pt ft fe (wipeD σ own)) items S1).nox.bind fun ys S2 => Res.ok (D.lst ys) S2 else .no) = _
  rw [hi]
  show (if (l.map enc).length < line then _ else _) = _
  rw [List.length_map, if_pos hl, lcG_pure _ enc p e S l ht, ← cpick_eq]
  rfl
/-- a turn -/
theorem lcTurn_of {pt : Pat} {ft : FT} {fe : F1} {σ σ1 : Sg} {d : D} {S : Sto} (b : Bool) (y : D) (hp : patD pt d σ = some σ1) (ht : ft σ1 S = .ok b S) (he : b = true → fe σ1 S = .ok y S) : lcTurn pt ft fe σ d S = .ok (if b = true then some y else none) S := by
  unfold lcTurn
  rw [hp]
  show ((ft σ1 S).bind fun b S1 => if b = true then (fe σ1 S1).bind fun y S2 => Res.ok (some y) S2 else .ok none S1) = _
  rw [ht]
  show (if b = true then (fe σ1 S).bind fun y S2 => Res.ok (some y) S2 else .ok none S) = _
  cases b with
  | true =>
    rw [if_pos rfl, if_pos rfl, he rfl]
    rfl
  | false => rfl
theorem big1 (n : Nat) (hn : n ≤ 1000) : -4611686018427387904 ≤ (n : Int) ∧ (n : Int) < 4611686018427387904 := by omega
theorem range_items' {n : Nat} {ga : FA} {σ : Sg} {S : Sto} (h : ga σ S = .ok [.int (n : Int)] S) (hn : n ≤ 1000) : iRange1 ga σ S = .ok ((List.range n).map fun i => D.int (i : Nat)) S := by
  rw [ap_iRange1, h, bind_ok1]
  simp only [if_pos (big1 n hn), Int.toNat_natCast]
theorem range_items {n : Nat} {ga : FA} {σ : Sg} {S : Sto} (h : ga σ S = .ok [ni n] S) (hn : n ≤ 1000) : iRange1 ga σ S = .ok ((List.range n).map ni) S := range_items' h hn
/-! ### sorting -/
theorem insI_front {a : Int} {l : List Int} (h : ∀ b ∈ l, a ≤ b) : insI a l = a :: l := by
  cases l with
  | nil => rfl
  | cons b r =>
    unfold insI
    rw [if_pos (h b List.mem_cons_self)]
theorem insI_fil' (p : Nat → Bool) (a : Nat) : ∀ (k s : Nat), s ≤ a → a < s + k → p a = false →
    insI (a : Int) (((List.range' s k).filter p).map fun (i : Nat) => (i : Int)) = ((List.range' s k).filter fun i => p i || i == a).map fun (i : Nat) => (i : Int)
  | 0, s, h1, h2, _ => by omega
  | k + 1, s, h1, h2, hp => by
    rw [List.range'_succ, List.filter_cons, List.filter_cons]
    by_cases e : s = a
    · subst e
      rw [hp, if_neg Bool.false_ne_true]
      have e2 : (false || s == s) = true := by simp
      rw [if_pos e2, List.map_cons]
      have e3 : (List.range' (s + 1) k).filter (fun i => p i || i == s) = (List.range' (s + 1) k).filter p := by
        refine List.filter_congr fun i hi => ?_
        have := List.mem_range'_1.mp hi
        have z : (i == s) = false := by rw [beq_eq_false_iff_ne]; omega
        rw [z, Bool.or_false]
      rw [e3]
      refine insI_front fun b hb => ?_
      obtain ⟨i, hi, rfl⟩ := List.mem_map.mp hb
      have := List.mem_range'_1.mp (List.mem_filter.mp hi).1
      omega
    · have z : (s == a) = false := by rw [beq_eq_false_iff_ne]; exact e
      have ih := insI_fil' p a k (s + 1) (by omega) (by omega) hp
      rw [z, Bool.or_false]
      cases hs : p s with
      | true =>
        rw [if_pos rfl, if_pos rfl, List.map_cons, List.map_cons]
        unfold insI
        rw [if_neg (by omega), ih]
      | false =>
        rw [if_neg Bool.false_ne_true, if_neg Bool.false_ne_true, ih]
theorem insI_fil {n a : Nat} {p : Nat → Bool} (h : a < n) (hp : p a = false) : insI (a : Int) ((fil n p).map fun (i : Nat) => (i : Int)) = (fil n fun i => p i || i == a).map fun (i : Nat) => (i : Int) := by
  unfold fil
  rw [List.range_eq_range']
  exact insI_fil' p a n 0 (Nat.zero_le _) (by omega) hp
theorem isort_fil {n : Nat} : ∀ {l : List Nat}, l.Nodup → (∀ i ∈ l, i < n) → isort (l.map fun (i : Nat) => (i : Int)) = (fil n fun i => l.contains i).map fun (i : Nat) => (i : Int)
  | [], _, _ => by
    have e : fil n (fun i => ([] : List Nat).contains i) = [] := by
      unfold fil
      exact List.filter_eq_nil_iff.mpr fun _ _ => by simp
    rw [e]
    rfl
  | a :: l, hn, hl => by
    rw [List.nodup_cons] at hn
    show insI (a : Int) (isort (l.map fun (i : Nat) => (i : Int))) = _
    rw [isort_fil hn.2 fun i hi => hl i (List.mem_cons_of_mem _ hi), insI_fil (hl a List.mem_cons_self) (by simpa using hn.1)]
    congr 1
    refine fil_congr fun i _ => ?_
    rw [List.contains_cons, Bool.or_comm]
theorem nub_ints {l : List Nat} (h : l.Nodup) : nub (l.map fun (i : Nat) => (i : Int)) = l.map fun (i : Nat) => (i : Int) := by
  induction l with
  | nil => rfl
  | cons a l ih =>
    rw [List.nodup_cons] at h
    have e : ¬ ((a : Int) ∈ l.map fun (i : Nat) => (i : Int)) := fun z => by
      obtain ⟨b, hb, e⟩ := List.mem_map.mp z
      have : b = a := by omega
      exact h.1 (this ▸ hb)
    show (if (a : Int) ∈ l.map (fun (i : Nat) => (i : Int)) then nub (l.map fun (i : Nat) => (i : Int)) else (a : Int) :: nub (l.map fun (i : Nat) => (i : Int))) = _
    rw [if_neg e, ih h.2]
    rfl
/-! ### the store -/
def WfS (S : Sto) : Prop := S.all (bdO S.length) = true
theorem clean_new {S : Sto} {r : Res D} {o : O} (hS : WfS S) (h : r = .ok (.loc S.length) (S ++ [o])) (hb : bd S.length (fz o) = true) : clean S r = .ok (fz o) S := by
  subst h
  have e1 : (S ++ [o]).take S.length = S := by rw [List.take_left]
  have e2 : fzAt S.length (S ++ [o]) (.loc S.length) = fz o := by
    unfold fzAt
    dsimp only
    rw [if_pos (Nat.le_refl _)]
    simp
  unfold clean
  dsimp only
  rw [e1, e2, if_pos ⟨by simp, hS, hb⟩]
theorem bdL_all {n : Nat} : ∀ {l : List D}, (∀ d ∈ l, bd n d = true) → bdL n l = true
  | [], _ => rfl
  | d :: r, h => by
    show (bd n d && bdL n r) = true
    rw [h d List.mem_cons_self, bdL_all fun e he => h e (List.mem_cons_of_mem _ he)]
    rfl
theorem bdL_nis {n : Nat} (l : List Nat) : bdL n (nis l) = true := bdL_all fun d hd => by
  obtain ⟨i, _, rfl⟩ := List.mem_map.mp hd
  rfl
/-! ### turns -/
def onO {α β : Type} (o : Option α) (k : α → Res β) : Res β := match o with
  | some b => k b
  | none => .no
class KontO (α β : Type) where
  k : α → Res β
def onOI {α β : Type} (o : Option α) [f : KontO α β] : Res β := onO o f.k
theorem onO_toI {α β : Type} (o : Option α) (k : α → Res β) : onO o k = @onOI α β o ⟨k⟩ := rfl
theorem onOI_some {α β : Type} (b : α) (k : α → Res β) : @onOI α β (some b) ⟨k⟩ = k b := rfl
theorem onO_some {α β : Type} (b : α) (k : α → Res β) : onO (some b) k = k b := rfl
theorem ap_lcTurn {p : Pat} {ft : FT} {fe : F1} {σ : Sg} {d : D} {S : Sto} : lcTurn p ft fe σ d S = onO (patD p d σ) fun σ1 => (ft σ1 S).bind fun b S1 => if b = true then (fe σ1 S1).bind fun y S2 => .ok (some y) S2 else .ok none S1 := by
  unfold lcTurn
  cases patD p d σ <;> rfl
theorem mg_turn (b : Bool) (y : D) (S : Sto) : (if b = true then Res.ok (some y) S else Res.ok none S) = .ok (if b = true then some y else none) S := by cases b <;> rfl
theorem ap_runS3 {fs : FS} {a b : D} {r : List D} {S : Sto} : runBS 3 2 fs (a :: b :: r) S = if r.length + 2 ≤ line then endD (fs [some a, some b, some (.tup r)] S) else .no := by
  unfold runBS
  simp only [List.length_cons, List.take_succ_cons, List.take_zero, List.drop_succ_cons, List.drop_zero]
  by_cases h : r.length + 2 ≤ line
  · rw [if_pos ⟨by omega, h⟩, if_pos h]
    rfl
  · rw [if_neg fun z => h z.2, if_neg h]
/-! ### the newest cell -/
theorem at_new (S : Sto) (o : O) : (S ++ [o])[S.length]? = some o := by simp
theorem set_new (S : Sto) (o o' : O) : (S ++ [o]).set S.length o' = S ++ [o'] := by simp
theorem fld_new {S : Sto} {c : Nat} {x : Str} {v : D} {fs : List (Str × D)} (h : fs.length < 1000) : opFldSet c x (.loc S.length) v (S ++ [.ins c fs]) = some (S ++ [.ins c (putFd x v fs)]) := by
  simp only [opFldSet, at_new, set_new, if_pos h, if_true]
theorem ap_fset {c : Nat} {x : Str} {f g : F1} {σ : Sg} {S : Sto} : sFldSet c x f g σ S = (f σ S).bind fun v S1 => (g σ S1).bind fun o S2 => onO (opFldSet c x o v S2) fun S3 => .ok (.nx σ) S3 := by
  unfold sFldSet
  congr
  funext v S1
  congr
  funext o S2
  cases opFldSet c x o v S2 <;> rfl
theorem ap_lenSet {f : F1} {σ : Sg} {S : Sto} : eLenSet f σ S = (f σ S).bind fun d S1 => onO (setInts d) fun ns => .ok (.int (nub ns).length) S1 := by
  unfold eLenSet
  congr
  funext d S1
  cases setInts d <;> rfl
theorem setInts_nis {l : List Nat} (h : l.length < 60) : setInts (.tup (nis l)) = some (l.map fun (i : Nat) => (i : Int)) := by
  unfold setInts
  simp only [nis_len, if_pos h, mapO_nis]
theorem o_sortT {n : Nat} {l : List Nat} {S : Sto} (h : l.Nodup) (hl : ∀ i ∈ l, i < n) : opSortedT [.tup (nis l)] S = .ok (.lst (nis (fil n fun i => l.contains i))) S := by
  simp only [opSortedT, mapO_nis, isort_fil h hl, List.map_map]
  rfl
/-! ### == of data -/
theorem mapO_map {α β γ : Type} {f : β → Option γ} {g : α → β} {h : α → γ} : ∀ {l : List α}, (∀ x ∈ l, f (g x) = some (h x)) → mapO f (l.map g) = some (l.map h)
  | [], _ => rfl
  | x :: r, H => by
    simp only [List.map_cons, mapO, H x List.mem_cons_self, mapO_map (l := r) fun y hy => H y (List.mem_cons_of_mem _ hy)]
theorem eqvAll_map {α : Type} [DecidableEq α] {h : α → PyData} (H : ∀ x y, PyData.eqv (h x) (h y) = decide (x = y)) : ∀ l m : List α, PyData.eqvAll (l.map h) (m.map h) = decide (l = m)
  | [], [] => rfl
  | [], _ :: _ => rfl
  | _ :: _, [] => rfl
  | x :: l, y :: m => by
    show (PyData.eqv (h x) (h y) && PyData.eqvAll (l.map h) (m.map h)) = _
    rw [H, eqvAll_map H l m, Bool.eq_iff_iff, Bool.and_eq_true, decide_eq_true_eq, decide_eq_true_eq, decide_eq_true_eq, List.cons.injEq]
/-- data that are compared as they are: how they are written, what they are to the machine, how deep -/
structure Py (α : Type) [DecidableEq α] (d : α → D) (p : α → PyData) (ok : α → Prop) (k : Nat) : Prop where
  to : ∀ S n x, ok x → toPy S (n + k + 1) (d x) = some (p x)
  eq : ∀ x y, PyData.eqv (p x) (p y) = decide (x = y)
theorem Py.mono {α : Type} [DecidableEq α] {d : α → D} {p : α → PyData} {ok : α → Prop} {k j : Nat} (h : Py α d p ok k) (hj : k ≤ j) : Py α d p ok j := ⟨fun S n x o => by
  have e : n + j + 1 = (n + (j - k)) + k + 1 := by omega
  rw [e]
  exact h.to S _ x o, h.eq⟩
theorem py_nat : Py Nat ni (fun i => .int (i : Int)) (fun _ => True) 0 := ⟨fun _ _ _ _ => rfl, fun x y => by
  show ((x : Int) == (y : Int)) = _
  rw [Bool.eq_iff_iff, beq_iff_eq, decide_eq_true_eq]
  omega⟩
theorem py_bool : Py Bool D.bl PyData.bool (fun _ => True) 0 := ⟨fun _ _ _ _ => rfl, fun x y => by
  show (x == y) = _
  cases x <;> cases y <;> rfl⟩
theorem py_str : Py Str D.str PyData.str (fun x => PyData.strOk x = true) 0 := ⟨fun S n x h => by
  show (if PyData.strOk x = true then some (PyData.str x) else none) = _
  rw [if_pos h], fun x y => by
  show (x == y) = _
  rw [Bool.eq_iff_iff, beq_iff_eq, decide_eq_true_eq]⟩
theorem Py.tup {α : Type} [DecidableEq α] {d : α → D} {p : α → PyData} {ok : α → Prop} {k : Nat} (h : Py α d p ok k) : Py (List α) (fun l => .tup (l.map d)) (fun l => .tuple (l.map p)) (fun l => ∀ x ∈ l, ok x) (k + 1) := ⟨fun S n l o => by
  show (mapO (toPy S (n + (k + 1))) (l.map d)).map PyData.tuple = _
  have e : n + (k + 1) = n + k + 1 := by omega
  rw [e, mapO_map fun x hx => h.to S n x (o x hx)]
  rfl, fun x y => eqvAll_map h.eq x y⟩
theorem Py.lst {α : Type} [DecidableEq α] {d : α → D} {p : α → PyData} {ok : α → Prop} {k : Nat} (h : Py α d p ok k) : Py (List α) (fun l => .lst (l.map d)) (fun l => .list (l.map p)) (fun l => ∀ x ∈ l, ok x) (k + 1) := ⟨fun S n l o => by
  show (mapO (toPy S (n + (k + 1))) (l.map d)).map PyData.list = _
  have e : n + (k + 1) = n + k + 1 := by omega
  rw [e, mapO_map fun x hx => h.to S n x (o x hx)]
  rfl, fun x y => eqvAll_map h.eq x y⟩
theorem Py.pair {α β : Type} [DecidableEq α] [DecidableEq β] {d : α → D} {p : α → PyData} {ok : α → Prop} {e : β → D} {q : β → PyData} {ok2 : β → Prop} {k : Nat} (h : Py α d p ok k) (h2 : Py β e q ok2 k) :
    Py (α × β) (fun z => .tup [d z.1, e z.2]) (fun z => .tuple [p z.1, q z.2]) (fun z => ok z.1 ∧ ok2 z.2) (k + 1) := ⟨fun S n z o => by
  show (mapO (toPy S (n + (k + 1))) [d z.1, e z.2]).map PyData.tuple = _
  have e1 : n + (k + 1) = n + k + 1 := by omega
  rw [e1]
  simp only [mapO, h.to S n z.1 o.1, h2.to S n z.2 o.2]
  rfl, fun x y => by
  show (PyData.eqv (p x.1) (p y.1) && (PyData.eqv (q x.2) (q y.2) && true)) = _
  rw [h.eq, h2.eq, Bool.and_true, Bool.eq_iff_iff, Bool.and_eq_true, decide_eq_true_eq, decide_eq_true_eq, decide_eq_true_eq, Prod.ext_iff]⟩
theorem Py.o_eq {α : Type} [DecidableEq α] {d : α → D} {p : α → PyData} {ok : α → Prop} {k : Nat} (h : Py α d p ok k) (hk : k ≤ 8) {x y : α} {S : Sto} (hx : ok x) (hy : ok y) : opEq (d x) (d y) S = .ok (.bl (decide (x = y))) S := by
  have h8 := h.mono hk
  unfold opEq
  rw [h8.to S 0 x hx, h8.to S 0 y hy]
  show Res.ok (D.bl (PyData.eqv (p x) (p y))) S = _
  rw [h.eq]
theorem Py.o_ne {α : Type} [DecidableEq α] {d : α → D} {p : α → PyData} {ok : α → Prop} {k : Nat} (h : Py α d p ok k) (hk : k ≤ 8) {x y : α} {S : Sto} (hx : ok x) (hy : ok y) : opNe (d x) (d y) S = .ok (.bl (!decide (x = y))) S := by
  have h8 := h.mono hk
  unfold opNe
  rw [h8.to S 0 x hx, h8.to S 0 y hy]
  show Res.ok (D.bl (!PyData.eqv (p x) (p y))) S = _
  rw [h.eq]
theorem o_eqT {a b : List Nat} {S : Sto} : opEq (.tup (nis a)) (.tup (nis b)) S = .ok (.bl (decide (a = b))) S := py_nat.tup.o_eq (by decide) (fun _ _ => trivial) fun _ _ => trivial
theorem o_neT {a b : List Nat} {S : Sto} : opNe (.tup (nis a)) (.tup (nis b)) S = .ok (.bl (!decide (a = b))) S := py_nat.tup.o_ne (by decide) (fun _ _ => trivial) fun _ _ => trivial
theorem o_eqLN {a b : List Nat} {S : Sto} : opEq (.lst (nis a)) (.lst (nis b)) S = .ok (.bl (decide (a = b))) S := py_nat.lst.o_eq (by decide) (fun _ _ => trivial) fun _ _ => trivial
theorem o_neLN {a b : List Nat} {S : Sto} : opNe (.lst (nis a)) (.lst (nis b)) S = .ok (.bl (!decide (a = b))) S := py_nat.lst.o_ne (by decide) (fun _ _ => trivial) fun _ _ => trivial
theorem seqOf_lst {xs : List D} {S : Sto} : seqOf (.lst xs) S = some xs := rfl
theorem seqOf_tup {xs : List D} {S : Sto} : seqOf (.tup xs) S = some xs := rfl
theorem contains_fil {n i : Nat} {p : Nat → Bool} (h : i < n) : (fil n p).contains i = p i := by
  rw [Bool.eq_iff_iff, List.contains_iff_mem, mem_fil]
  exact ⟨fun z => z.2, fun z => ⟨h, z⟩⟩
/-! ### dicts by texts -/
theorem valD_map {α κ : Type} [DecidableEq κ] {k : α → κ} {v : α → D} : ∀ {l : List α} {x : α}, (l.map k).Nodup → x ∈ l → valD (l.map fun x => (k x, v x)) (k x) = some (v x)
  | [], _, _, h => by cases h
  | a :: l, x, hn, h => by
    rw [List.map_cons, List.nodup_cons] at hn
    unfold valD
    rw [List.map_cons, List.find?_cons]
    by_cases e : k a = k x
    · have e2 : a = x := by
        rcases List.mem_cons.mp h with z | z
        · exact z.symm
        · exact absurd (List.mem_map.mpr ⟨x, z, e.symm⟩) hn.1
      subst e2
      simp
    · rw [show decide (((fun x => (k x, v x)) a).1 = k x) = false from decide_eq_false e]
      have h2 : x ∈ l := by
        rcases List.mem_cons.mp h with z | z
        · exact absurd (by rw [z]) e
        · exact z
      exact valD_map hn.2 h2
theorem valD_none {α κ : Type} [DecidableEq κ] {k : α → κ} {v : α → D} {z : κ} : ∀ {l : List α}, z ∉ l.map k → valD (l.map fun x => (k x, v x)) z = none
  | [], _ => rfl
  | a :: l, h => by
    rw [List.map_cons, List.mem_cons, not_or] at h
    unfold valD
    rw [List.map_cons, List.find?_cons, show decide (((fun x => (k x, v x)) a).1 = z) = false from decide_eq_false fun e => h.1 e.symm]
    exact valD_none h.2
theorem o_ixD {kvs : List (Key × D)} {x : Str} {d : D} {S : Sto} (h : valD kvs (.inr x) = some d) : opIxA (.dk kvs) (.str x) S = .ok d S := by
  show (match some (valD kvs (.inr x)) with | some (some d) => Res.ok d S | _ => .no) = _
  rw [h]
theorem o_inD {kvs : List (Key × D)} {x : Str} {S : Sto} : opInA (.str x) (.dk kvs) S = .ok (.bl (valD kvs (.inr x)).isSome) S := rfl
theorem o_notInD {kvs : List (Key × D)} {x : Str} {S : Sto} : opNotInA (.str x) (.dk kvs) S = .ok (.bl (!(valD kvs (.inr x)).isSome)) S := rfl
def sts (l : List Str) : List D := l.map D.str
theorem sts_cons (a : Str) (l : List Str) : sts (a :: l) = .str a :: sts l := rfl
theorem sts_len (l : List Str) : (sts l).length = l.length := List.length_map ..
theorem flat_sts (l : List Str) : (sts l).all flatD = true := by
  unfold sts
  rw [List.all_map]
  exact List.all_eq_true.mpr fun _ _ => rfl
theorem any_sts (l : List Str) (k : Str) : ((sts l).any fun z => eqF z (.str k)) = l.contains k := by
  induction l with
  | nil => rfl
  | cons a l ih =>
    rw [sts_cons, List.any_cons, ih, List.contains_cons]
    congr 1
    show (a == k) = (k == a)
    rw [Bool.eq_iff_iff, beq_iff_eq, beq_iff_eq]
    exact eq_comm
theorem o_inS {k : Str} {l : List Str} {S : Sto} : opInA (.str k) (.tup (sts l)) S = .ok (.bl (l.contains k)) S := by
  show (if (flatD (.str k) && (sts l).all flatD) = true then Res.ok (D.bl ((sts l).any fun z => eqF z (.str k))) S else .no) = _
  rw [flat_sts, any_sts]
  rfl
theorem o_inSL {k : Str} {l : List Str} {S : Sto} : opInA (.str k) (.lst (sts l)) S = .ok (.bl (l.contains k)) S := by
  show (if (flatD (.str k) && (sts l).all flatD) = true then Res.ok (D.bl ((sts l).any fun z => eqF z (.str k))) S else .no) = _
  rw [flat_sts, any_sts]
  rfl
theorem ap_dcTurn {p : Pat} {ft : FT} {fk fv : F1} {σ : Sg} {d : D} {S : Sto} : dcTurn p ft fk fv σ d S = onO (patD p d σ) fun σ1 => (ft σ1 S).bind fun b S1 => if b = true then (fk σ1 S1).bind fun y S2 => (fv σ1 S2).bind fun z S3 => onO (keyOf y) fun k => .ok (some (k, z)) S3 else .ok none S1 := by
  unfold dcTurn
  cases patD p d σ with
  | none => rfl
  | some σ1 =>
    show ((ft σ1 S).bind _) = ((ft σ1 S).bind _)
    congr
    funext b S1
    cases b with
    | false => rfl
    | true =>
      rw [if_pos rfl, if_pos rfl]
      congr
      funext y S2
      congr
      funext z S3
      cases keyOf y <;> rfl
theorem keyOf_str (x : Str) : keyOf (.str x) = some (.inr x) := rfl
theorem putD_new {κ : Type} [DecidableEq κ] {acc : List (κ × D)} {k : κ} {v : D} (h : k ∉ acc.map (·.1)) : putD acc k v = acc ++ [(k, v)] := by
  unfold putD
  have e : (acc.any fun kv => decide (kv.1 = k)) = false := by
    rw [List.any_eq_false]
    intro x hx z
    exact h (List.mem_map.mpr ⟨x, hx, of_decide_eq_true z⟩)
  rw [e, if_neg Bool.false_ne_true]
theorem dcG_pure {α : Type} (turn : D → Sto → Res (Option (Key × D))) (enc : α → D) (k : α → Key) (v : α → D) (S : Sto) : ∀ (l : List α) (acc : List (Key × D)), (∀ x ∈ l, turn (enc x) S = .ok (some (k x, v x)) S) → (acc.map (·.1) ++ l.map k).Nodup → dcG turn (l.map enc) acc S = .ok (acc ++ l.map fun x => (k x, v x)) S
  | [], acc, _, _ => by
    show Res.ok acc S = Res.ok (acc ++ []) S
    rw [List.append_nil]
  | x :: r, acc, h, hn => by
    show ((turn (enc x) S).bind fun o S1 => dcG turn (r.map enc) (putO acc o) S1) = _
    rw [h x List.mem_cons_self]
    show dcG turn (r.map enc) (putD acc (k x) (v x)) S = _
    have hx : k x ∉ acc.map (·.1) := by
      rw [List.map_cons, List.nodup_append] at hn
      exact fun z => hn.2.2 _ z _ List.mem_cons_self rfl
    rw [putD_new hx, dcG_pure turn enc k v S r _ (fun y hy => h y (List.mem_cons_of_mem _ hy)) (by rw [List.map_append, List.append_assoc]; exact hn), List.append_assoc]
    rfl
theorem eDc_pure {α : Type} {fi : FI} {pt : Pat} {ft : FT} {fk fv : F1} {own : List Nat} {σ : Sg} {S : Sto} (enc : α → D) (k : α → Key) (v : α → D) (l : List α) (hi : fi σ S = .ok (l.map enc) S) (hl : l.length < line) (hn : (l.map k).Nodup)
    (ht : ∀ x ∈ l, dcTurn pt ft fk fv (wipeD σ own) (enc x) S = .ok (some (k x, v x)) S) : eDc fi pt ft fk fv own σ S = .ok (.dk (l.map fun x => (k x, v x))) S := by
  unfold eDc
  rw [hi]
  show (if (l.map enc).length < line then _ else _) = _
  rw [List.length_map, if_pos hl, dcG_pure _ enc k v S l [] ht (by simpa using hn)]
  rfl
theorem pureAll {α : Type} (l : List α) (p : α → Bool) : ((l.filter fun _ => true).map fun x => D.bl (p x)) = (l.map p).map D.bl := by
  rw [List.filter_eq_self.mpr fun _ _ => rfl, List.map_map]
  rfl
theorem all_map_id {α : Type} (l : List α) (p : α → Bool) : (l.map p).all id = l.all p := by
  rw [List.all_map]
  rfl
/-! ### short lists -/
section
variable {α : Type} {σ : Sg} {S : Sto}
theorem lnl0 : ((([] : List α).length ≤ line) = True) := eq_true (Nat.le_of_ble_eq_true rfl)
theorem lni0 : ((([] : List α).length : Nat) : Int) = 0 := rfl
theorem lnl1 {a0 : α} : ((([a0] : List α).length ≤ line) = True) := eq_true (Nat.le_of_ble_eq_true rfl)
theorem lni1 {a0 : α} : ((([a0] : List α).length : Nat) : Int) = 1 := rfl
theorem lnl2 {a0 a1 : α} : ((([a0, a1] : List α).length ≤ line) = True) := eq_true (Nat.le_of_ble_eq_true rfl)
theorem lni2 {a0 a1 : α} : ((([a0, a1] : List α).length : Nat) : Int) = 2 := rfl
theorem lnl3 {a0 a1 a2 : α} : ((([a0, a1, a2] : List α).length ≤ line) = True) := eq_true (Nat.le_of_ble_eq_true rfl)
theorem lni3 {a0 a1 a2 : α} : ((([a0, a1, a2] : List α).length : Nat) : Int) = 3 := rfl
theorem lnl4 {a0 a1 a2 a3 : α} : ((([a0, a1, a2, a3] : List α).length ≤ line) = True) := eq_true (Nat.le_of_ble_eq_true rfl)
theorem lni4 {a0 a1 a2 a3 : α} : ((([a0, a1, a2, a3] : List α).length : Nat) : Int) = 4 := rfl
theorem lnl5 {a0 a1 a2 a3 a4 : α} : ((([a0, a1, a2, a3, a4] : List α).length ≤ line) = True) := eq_true (Nat.le_of_ble_eq_true rfl)
theorem lni5 {a0 a1 a2 a3 a4 : α} : ((([a0, a1, a2, a3, a4] : List α).length : Nat) : Int) = 5 := rfl
theorem lnl6 {a0 a1 a2 a3 a4 a5 : α} : ((([a0, a1, a2, a3, a4, a5] : List α).length ≤ line) = True) := eq_true (Nat.le_of_ble_eq_true rfl)
theorem lni6 {a0 a1 a2 a3 a4 a5 : α} : ((([a0, a1, a2, a3, a4, a5] : List α).length : Nat) : Int) = 6 := rfl
theorem lnl7 {a0 a1 a2 a3 a4 a5 a6 : α} : ((([a0, a1, a2, a3, a4, a5, a6] : List α).length ≤ line) = True) := eq_true (Nat.le_of_ble_eq_true rfl)
theorem lni7 {a0 a1 a2 a3 a4 a5 a6 : α} : ((([a0, a1, a2, a3, a4, a5, a6] : List α).length : Nat) : Int) = 7 := rfl
theorem lnl8 {a0 a1 a2 a3 a4 a5 a6 a7 : α} : ((([a0, a1, a2, a3, a4, a5, a6, a7] : List α).length ≤ line) = True) := eq_true (Nat.le_of_ble_eq_true rfl)
theorem lnl9 {a0 a1 a2 a3 a4 a5 a6 a7 a8 : α} : ((([a0, a1, a2, a3, a4, a5, a6, a7, a8] : List α).length ≤ line) = True) := eq_true (Nat.le_of_ble_eq_true rfl)
theorem lnl10 {a0 a1 a2 a3 a4 a5 a6 a7 a8 a9 : α} : ((([a0, a1, a2, a3, a4, a5, a6, a7, a8, a9] : List α).length ≤ line) = True) := eq_true (Nat.le_of_ble_eq_true rfl)
theorem lnl11 {a0 a1 a2 a3 a4 a5 a6 a7 a8 a9 a10 : α} : ((([a0, a1, a2, a3, a4, a5, a6, a7, a8, a9, a10] : List α).length ≤ line) = True) := eq_true (Nat.le_of_ble_eq_true rfl)
theorem lnl12 {a0 a1 a2 a3 a4 a5 a6 a7 a8 a9 a10 a11 : α} : ((([a0, a1, a2, a3, a4, a5, a6, a7, a8, a9, a10, a11] : List α).length ≤ line) = True) := eq_true (Nat.le_of_ble_eq_true rfl)
theorem lnl13 {a0 a1 a2 a3 a4 a5 a6 a7 a8 a9 a10 a11 a12 : α} : ((([a0, a1, a2, a3, a4, a5, a6, a7, a8, a9, a10, a11, a12] : List α).length ≤ line) = True) := eq_true (Nat.le_of_ble_eq_true rfl)
theorem lnl14 {a0 a1 a2 a3 a4 a5 a6 a7 a8 a9 a10 a11 a12 a13 : α} : ((([a0, a1, a2, a3, a4, a5, a6, a7, a8, a9, a10, a11, a12, a13] : List α).length ≤ line) = True) := eq_true (Nat.le_of_ble_eq_true rfl)
theorem lnl15 {a0 a1 a2 a3 a4 a5 a6 a7 a8 a9 a10 a11 a12 a13 a14 : α} : ((([a0, a1, a2, a3, a4, a5, a6, a7, a8, a9, a10, a11, a12, a13, a14] : List α).length ≤ line) = True) := eq_true (Nat.le_of_ble_eq_true rfl)
theorem lnl16 {a0 a1 a2 a3 a4 a5 a6 a7 a8 a9 a10 a11 a12 a13 a14 a15 : α} : ((([a0, a1, a2, a3, a4, a5, a6, a7, a8, a9, a10, a11, a12, a13, a14, a15] : List α).length ≤ line) = True) := eq_true (Nat.le_of_ble_eq_true rfl)
theorem lnl17 {a0 a1 a2 a3 a4 a5 a6 a7 a8 a9 a10 a11 a12 a13 a14 a15 a16 : α} : ((([a0, a1, a2, a3, a4, a5, a6, a7, a8, a9, a10, a11, a12, a13, a14, a15, a16] : List α).length ≤ line) = True) := eq_true (Nat.le_of_ble_eq_true rfl)
theorem gT1 {g0 : FG} {d0 : D} : gTup [g0] (.tup [d0]) σ S = gAll [g0] [d0] σ S := rfl
theorem gT2 {g0 g1 : FG} {d0 d1 : D} : gTup [g0, g1] (.tup [d0, d1]) σ S = gAll [g0, g1] [d0, d1] σ S := rfl
theorem gT3 {g0 g1 g2 : FG} {d0 d1 d2 : D} : gTup [g0, g1, g2] (.tup [d0, d1, d2]) σ S = gAll [g0, g1, g2] [d0, d1, d2] σ S := rfl
theorem gT4 {g0 g1 g2 g3 : FG} {d0 d1 d2 d3 : D} : gTup [g0, g1, g2, g3] (.tup [d0, d1, d2, d3]) σ S = gAll [g0, g1, g2, g3] [d0, d1, d2, d3] σ S := rfl
theorem gT5 {g0 g1 g2 g3 g4 : FG} {d0 d1 d2 d3 d4 : D} : gTup [g0, g1, g2, g3, g4] (.tup [d0, d1, d2, d3, d4]) σ S = gAll [g0, g1, g2, g3, g4] [d0, d1, d2, d3, d4] σ S := rfl
theorem gT6 {g0 g1 g2 g3 g4 g5 : FG} {d0 d1 d2 d3 d4 d5 : D} : gTup [g0, g1, g2, g3, g4, g5] (.tup [d0, d1, d2, d3, d4, d5]) σ S = gAll [g0, g1, g2, g3, g4, g5] [d0, d1, d2, d3, d4, d5] σ S := rfl
theorem gT7 {g0 g1 g2 g3 g4 g5 g6 : FG} {d0 d1 d2 d3 d4 d5 d6 : D} : gTup [g0, g1, g2, g3, g4, g5, g6] (.tup [d0, d1, d2, d3, d4, d5, d6]) σ S = gAll [g0, g1, g2, g3, g4, g5, g6] [d0, d1, d2, d3, d4, d5, d6] σ S := rfl
theorem ixt1_0 {d0 : D} : opIxA (.tup [d0]) (.int 0) S = .ok d0 S := rfl
theorem ixl1_0 {d0 : D} : opIxA (.lst [d0]) (.int 0) S = .ok d0 S := rfl
theorem ixt2_0 {d0 d1 : D} : opIxA (.tup [d0, d1]) (.int 0) S = .ok d0 S := rfl
theorem ixl2_0 {d0 d1 : D} : opIxA (.lst [d0, d1]) (.int 0) S = .ok d0 S := rfl
theorem ixt2_1 {d0 d1 : D} : opIxA (.tup [d0, d1]) (.int 1) S = .ok d1 S := rfl
theorem ixl2_1 {d0 d1 : D} : opIxA (.lst [d0, d1]) (.int 1) S = .ok d1 S := rfl
theorem ixt3_0 {d0 d1 d2 : D} : opIxA (.tup [d0, d1, d2]) (.int 0) S = .ok d0 S := rfl
theorem ixl3_0 {d0 d1 d2 : D} : opIxA (.lst [d0, d1, d2]) (.int 0) S = .ok d0 S := rfl
theorem ixt3_1 {d0 d1 d2 : D} : opIxA (.tup [d0, d1, d2]) (.int 1) S = .ok d1 S := rfl
theorem ixl3_1 {d0 d1 d2 : D} : opIxA (.lst [d0, d1, d2]) (.int 1) S = .ok d1 S := rfl
theorem ixt3_2 {d0 d1 d2 : D} : opIxA (.tup [d0, d1, d2]) (.int 2) S = .ok d2 S := rfl
theorem ixl3_2 {d0 d1 d2 : D} : opIxA (.lst [d0, d1, d2]) (.int 2) S = .ok d2 S := rfl
theorem ixt4_0 {d0 d1 d2 d3 : D} : opIxA (.tup [d0, d1, d2, d3]) (.int 0) S = .ok d0 S := rfl
theorem ixl4_0 {d0 d1 d2 d3 : D} : opIxA (.lst [d0, d1, d2, d3]) (.int 0) S = .ok d0 S := rfl
theorem ixt4_1 {d0 d1 d2 d3 : D} : opIxA (.tup [d0, d1, d2, d3]) (.int 1) S = .ok d1 S := rfl
theorem ixl4_1 {d0 d1 d2 d3 : D} : opIxA (.lst [d0, d1, d2, d3]) (.int 1) S = .ok d1 S := rfl
theorem ixt4_2 {d0 d1 d2 d3 : D} : opIxA (.tup [d0, d1, d2, d3]) (.int 2) S = .ok d2 S := rfl
theorem ixl4_2 {d0 d1 d2 d3 : D} : opIxA (.lst [d0, d1, d2, d3]) (.int 2) S = .ok d2 S := rfl
theorem ixt4_3 {d0 d1 d2 d3 : D} : opIxA (.tup [d0, d1, d2, d3]) (.int 3) S = .ok d3 S := rfl
theorem ixl4_3 {d0 d1 d2 d3 : D} : opIxA (.lst [d0, d1, d2, d3]) (.int 3) S = .ok d3 S := rfl
theorem ixt5_0 {d0 d1 d2 d3 d4 : D} : opIxA (.tup [d0, d1, d2, d3, d4]) (.int 0) S = .ok d0 S := rfl
theorem ixl5_0 {d0 d1 d2 d3 d4 : D} : opIxA (.lst [d0, d1, d2, d3, d4]) (.int 0) S = .ok d0 S := rfl
theorem ixt5_1 {d0 d1 d2 d3 d4 : D} : opIxA (.tup [d0, d1, d2, d3, d4]) (.int 1) S = .ok d1 S := rfl
theorem ixl5_1 {d0 d1 d2 d3 d4 : D} : opIxA (.lst [d0, d1, d2, d3, d4]) (.int 1) S = .ok d1 S := rfl
theorem ixt5_2 {d0 d1 d2 d3 d4 : D} : opIxA (.tup [d0, d1, d2, d3, d4]) (.int 2) S = .ok d2 S := rfl
theorem ixl5_2 {d0 d1 d2 d3 d4 : D} : opIxA (.lst [d0, d1, d2, d3, d4]) (.int 2) S = .ok d2 S := rfl
theorem ixt5_3 {d0 d1 d2 d3 d4 : D} : opIxA (.tup [d0, d1, d2, d3, d4]) (.int 3) S = .ok d3 S := rfl
theorem ixl5_3 {d0 d1 d2 d3 d4 : D} : opIxA (.lst [d0, d1, d2, d3, d4]) (.int 3) S = .ok d3 S := rfl
theorem ixt5_4 {d0 d1 d2 d3 d4 : D} : opIxA (.tup [d0, d1, d2, d3, d4]) (.int 4) S = .ok d4 S := rfl
theorem ixl5_4 {d0 d1 d2 d3 d4 : D} : opIxA (.lst [d0, d1, d2, d3, d4]) (.int 4) S = .ok d4 S := rfl
theorem ixt6_0 {d0 d1 d2 d3 d4 d5 : D} : opIxA (.tup [d0, d1, d2, d3, d4, d5]) (.int 0) S = .ok d0 S := rfl
theorem ixl6_0 {d0 d1 d2 d3 d4 d5 : D} : opIxA (.lst [d0, d1, d2, d3, d4, d5]) (.int 0) S = .ok d0 S := rfl
theorem ixt6_1 {d0 d1 d2 d3 d4 d5 : D} : opIxA (.tup [d0, d1, d2, d3, d4, d5]) (.int 1) S = .ok d1 S := rfl
theorem ixl6_1 {d0 d1 d2 d3 d4 d5 : D} : opIxA (.lst [d0, d1, d2, d3, d4, d5]) (.int 1) S = .ok d1 S := rfl
theorem ixt6_2 {d0 d1 d2 d3 d4 d5 : D} : opIxA (.tup [d0, d1, d2, d3, d4, d5]) (.int 2) S = .ok d2 S := rfl
theorem ixl6_2 {d0 d1 d2 d3 d4 d5 : D} : opIxA (.lst [d0, d1, d2, d3, d4, d5]) (.int 2) S = .ok d2 S := rfl
theorem ixt6_3 {d0 d1 d2 d3 d4 d5 : D} : opIxA (.tup [d0, d1, d2, d3, d4, d5]) (.int 3) S = .ok d3 S := rfl
theorem ixl6_3 {d0 d1 d2 d3 d4 d5 : D} : opIxA (.lst [d0, d1, d2, d3, d4, d5]) (.int 3) S = .ok d3 S := rfl
theorem ixt6_4 {d0 d1 d2 d3 d4 d5 : D} : opIxA (.tup [d0, d1, d2, d3, d4, d5]) (.int 4) S = .ok d4 S := rfl
theorem ixl6_4 {d0 d1 d2 d3 d4 d5 : D} : opIxA (.lst [d0, d1, d2, d3, d4, d5]) (.int 4) S = .ok d4 S := rfl
theorem ixt6_5 {d0 d1 d2 d3 d4 d5 : D} : opIxA (.tup [d0, d1, d2, d3, d4, d5]) (.int 5) S = .ok d5 S := rfl
theorem ixl6_5 {d0 d1 d2 d3 d4 d5 : D} : opIxA (.lst [d0, d1, d2, d3, d4, d5]) (.int 5) S = .ok d5 S := rfl
theorem ixt7_0 {d0 d1 d2 d3 d4 d5 d6 : D} : opIxA (.tup [d0, d1, d2, d3, d4, d5, d6]) (.int 0) S = .ok d0 S := rfl
theorem ixl7_0 {d0 d1 d2 d3 d4 d5 d6 : D} : opIxA (.lst [d0, d1, d2, d3, d4, d5, d6]) (.int 0) S = .ok d0 S := rfl
theorem ixt7_1 {d0 d1 d2 d3 d4 d5 d6 : D} : opIxA (.tup [d0, d1, d2, d3, d4, d5, d6]) (.int 1) S = .ok d1 S := rfl
theorem ixl7_1 {d0 d1 d2 d3 d4 d5 d6 : D} : opIxA (.lst [d0, d1, d2, d3, d4, d5, d6]) (.int 1) S = .ok d1 S := rfl
theorem ixt7_2 {d0 d1 d2 d3 d4 d5 d6 : D} : opIxA (.tup [d0, d1, d2, d3, d4, d5, d6]) (.int 2) S = .ok d2 S := rfl
theorem ixl7_2 {d0 d1 d2 d3 d4 d5 d6 : D} : opIxA (.lst [d0, d1, d2, d3, d4, d5, d6]) (.int 2) S = .ok d2 S := rfl
theorem ixt7_3 {d0 d1 d2 d3 d4 d5 d6 : D} : opIxA (.tup [d0, d1, d2, d3, d4, d5, d6]) (.int 3) S = .ok d3 S := rfl
theorem ixl7_3 {d0 d1 d2 d3 d4 d5 d6 : D} : opIxA (.lst [d0, d1, d2, d3, d4, d5, d6]) (.int 3) S = .ok d3 S := rfl
theorem ixt7_4 {d0 d1 d2 d3 d4 d5 d6 : D} : opIxA (.tup [d0, d1, d2, d3, d4, d5, d6]) (.int 4) S = .ok d4 S := rfl
theorem ixl7_4 {d0 d1 d2 d3 d4 d5 d6 : D} : opIxA (.lst [d0, d1, d2, d3, d4, d5, d6]) (.int 4) S = .ok d4 S := rfl
theorem ixt7_5 {d0 d1 d2 d3 d4 d5 d6 : D} : opIxA (.tup [d0, d1, d2, d3, d4, d5, d6]) (.int 5) S = .ok d5 S := rfl
theorem ixl7_5 {d0 d1 d2 d3 d4 d5 d6 : D} : opIxA (.lst [d0, d1, d2, d3, d4, d5, d6]) (.int 5) S = .ok d5 S := rfl
theorem ixt7_6 {d0 d1 d2 d3 d4 d5 d6 : D} : opIxA (.tup [d0, d1, d2, d3, d4, d5, d6]) (.int 6) S = .ok d6 S := rfl
theorem ixl7_6 {d0 d1 d2 d3 d4 d5 d6 : D} : opIxA (.lst [d0, d1, d2, d3, d4, d5, d6]) (.int 6) S = .ok d6 S := rfl
end
/-! ### sets of rules -/
def EVS := And.intro @bind_toI (And.intro @onB_toI (And.intro @onO_toI (And.intro @ap_bCons (And.intro @ap_bNil (And.intro @ap_sExpr (And.intro @ap_sRet (And.intro @ap_sRetN (And.intro @ap_sPass (And.intro @ap_sIf (And.intro @ap_sAsg (And.intro @ap_gAll0 (And.intro @ap_gAll1 (And.intro @ap_eC (And.intro @ap_aNil (And.intro @ap_aCons (And.intro @ap_aStar (And.intro @ap_eTup (And.intro @ap_eLst (And.intro @ap_eLstM (And.intro @ap_eBin (And.intro @ap_eUn (And.intro @ap_asB (And.intro @ap_tBin (And.intro @ap_tChain (And.intro @ap_eCall (And.intro @ap_eIf (And.intro @ap_tAnd (And.intro @ap_tOr (And.intro @ap_tNot (And.intro @ap_tYesD (And.intro @ap_eMeth (And.intro @ap_eProp (And.intro @ap_eCm (And.intro @ap_eItems (And.intro @ap_oNone (And.intro @ap_oSome (And.intro @ap_eCut (And.intro @ap_iAny (And.intro @ap_var0 (And.intro @ap_slot0 (And.intro @ap_pat0 (And.intro @ap_wipe0 (And.intro @ap_var1 (And.intro @ap_slot1 (And.intro @ap_pat1 (And.intro @ap_wipe1 (And.intro @ap_var2 (And.intro @ap_slot2 (And.intro @ap_pat2 (And.intro @ap_wipe2 (And.intro @ap_var3 (And.intro @ap_slot3 (And.intro @ap_pat3 (And.intro @ap_wipe3 (And.intro @ap_var4 (And.intro @ap_slot4 (And.intro @ap_pat4 (And.intro @ap_wipe4 (And.intro @ap_var5 (And.intro @ap_slot5 (And.intro @ap_pat5 (And.intro @ap_wipe5 (And.intro @ap_var6 (And.intro @ap_slot6 (And.intro @ap_pat6 (And.intro @ap_wipe6 (And.intro @ap_var7 (And.intro @ap_slot7 (And.intro @ap_pat7 (And.intro @ap_wipe7 (And.intro @ap_var8 (And.intro @ap_slot8 (And.intro @ap_pat8 (And.intro @ap_wipe8 (And.intro @ap_var9 (And.intro @ap_slot9 (And.intro @ap_pat9 (And.intro @ap_wipe9 (And.intro @ap_var10 (And.intro @ap_slot10 (And.intro @ap_pat10 (And.intro @ap_wipe10 (And.intro @ap_var11 (And.intro @ap_slot11 (And.intro @ap_pat11 (And.intro @ap_wipe11 (And.intro @ap_var12 (And.intro @ap_slot12 (And.intro @ap_pat12 (And.intro @ap_wipe12 (And.intro @ap_var13 (And.intro @ap_slot13 (And.intro @ap_pat13 (And.intro @ap_wipe13 (And.intro @ap_var14 (And.intro @ap_slot14 (And.intro @ap_pat14 (And.intro @ap_wipe14 (And.intro @ap_var15 (And.intro @ap_slot15 (And.intro @ap_pat15 (And.intro @ap_wipe15 (And.intro @ap_run0_0 (And.intro @ap_run1_0 (And.intro @ap_run2_0 (And.intro @ap_run3_0 (And.intro @ap_run4_0 (And.intro @ap_run5_0 (And.intro @ap_run6_0 (And.intro @ap_run7_0 (And.intro @ap_run8_0 (And.intro @ap_run9_0 (And.intro @ap_run10_0 (And.intro @ap_run11_0 (And.intro @ap_run12_0 (And.intro @ap_run13_0 (And.intro @ap_run14_0 (And.intro @ap_run15_0 (And.intro @ap_run1_1 (And.intro @ap_run2_1 (And.intro @ap_run3_1 (And.intro @ap_run4_1 (And.intro @ap_run5_1 (And.intro @ap_run6_1 (And.intro @ap_run7_1 (And.intro @ap_run8_1 (And.intro @ap_run9_1 (And.intro @ap_run10_1 (And.intro @ap_run11_1 (And.intro @ap_run12_1 (And.intro @ap_run13_1 (And.intro @ap_run14_1 (And.intro @ap_run15_1 (And.intro @ap_run2_2 (And.intro @ap_run3_2 (And.intro @ap_run4_2 (And.intro @ap_run5_2 (And.intro @ap_run6_2 (And.intro @ap_run7_2 (And.intro @ap_run8_2 (And.intro @ap_run9_2 (And.intro @ap_run10_2 (And.intro @ap_run11_2 (And.intro @ap_run12_2 (And.intro @ap_run13_2 (And.intro @ap_run14_2 (And.intro @ap_run15_2 (And.intro @ap_run3_3 (And.intro @ap_run4_3 (And.intro @ap_run5_3 (And.intro @ap_run6_3 (And.intro @ap_run7_3 (And.intro @ap_run8_3 (And.intro @ap_run9_3 (And.intro @ap_run10_3 (And.intro @ap_run11_3 (And.intro @ap_run12_3 (And.intro @ap_run13_3 (And.intro @ap_run14_3 (And.intro @ap_run15_3 (And.intro @ap_run4_4 (And.intro @ap_run5_4 (And.intro @ap_run6_4 (And.intro @ap_run7_4 (And.intro @ap_run8_4 (And.intro @ap_run9_4 (And.intro @ap_run10_4 (And.intro @ap_run11_4 (And.intro @ap_run12_4 (And.intro @ap_run13_4 (And.intro @ap_run14_4 (And.intro @ap_run15_4 (And.intro @ap_run5_5 (And.intro @ap_run6_5 (And.intro @ap_run7_5 (And.intro @ap_run8_5 (And.intro @ap_run9_5 (And.intro @ap_run10_5 (And.intro @ap_run11_5 (And.intro @ap_run12_5 (And.intro @ap_run13_5 (And.intro @ap_run14_5 (And.intro @ap_run15_5 (And.intro @ap_run6_6 (And.intro @ap_run7_6 (And.intro @ap_run8_6 (And.intro @ap_run9_6 (And.intro @ap_run10_6 (And.intro @ap_run11_6 (And.intro @ap_run12_6 (And.intro @ap_run13_6 (And.intro @ap_run14_6 (And.intro @ap_run15_6 (And.intro @ap_run7_7 (And.intro @ap_run8_7 (And.intro @ap_run9_7 (And.intro @ap_run10_7 (And.intro @ap_run11_7 (And.intro @ap_run12_7 (And.intro @ap_run13_7 (And.intro @ap_run14_7 (And.intro @ap_run15_7 (And.intro @ap_eTru' (And.intro @ap_eNot' (And.intro @ap_eAnd' (And.intro @ap_eOr' (And.intro @ap_eChain' (And.intro @ap_fset (And.intro @ap_lcTurn (And.intro @ap_lenSet (And.intro @ap_runS3 (And.intro @ap_dcTurn (And.intro @gT1 (And.intro @gT2 (And.intro @gT3 (And.intro @gT4 (And.intro @gT5 (And.intro @gT6 (@gT7)))))))))))))))))))))))))))))))))))))))))))))))))))))))))))))))))))))))))))))))))))))))))))))))))))))))))))))))))))))))))))))))))))))))))))))))))))))))))))))))))))))))))))))))))))))))))))))))))))))))))))))))))))))))))))
def EVP := And.intro @ap_pat0 (And.intro @ap_pat1 (And.intro @ap_pat2 (And.intro @ap_pat3 (And.intro @ap_pat4 (And.intro @ap_pat5 (And.intro @ap_pat6 (And.intro @ap_pat7 (And.intro @ap_pat8 (And.intro @ap_pat9 (And.intro @ap_pat10 (And.intro @ap_pat11 (And.intro @ap_pat12 (And.intro @ap_pat13 (And.intro @ap_pat14 (And.intro @ap_pat15 (And.intro @ap_wipe0 (And.intro @ap_wipe1 (And.intro @ap_wipe2 (And.intro @ap_wipe3 (And.intro @ap_wipe4 (And.intro @ap_wipe5 (And.intro @ap_wipe6 (And.intro @ap_wipe7 (And.intro @ap_wipe8 (And.intro @ap_wipe9 (And.intro @ap_wipe10 (And.intro @ap_wipe11 (And.intro @ap_wipe12 (And.intro @ap_wipe13 (And.intro @ap_wipe14 (@ap_wipe15)))))))))))))))))))))))))))))))
def OPS := And.intro @bindI_ok (And.intro @bindI_ex (And.intro @onBI_some (And.intro @onOI_some (And.intro @onO_some (And.intro @mg_turn (And.intro @bind_ok1 (And.intro @bind_ex1 (And.intro @onB_some (And.intro @blOf_bl (And.intro @tru_bl (And.intro @tru_int (And.intro @tru_tup (And.intro @tru_lst (And.intro @tru_non (And.intro @mg_and (And.intro @mg_chain (And.intro @mg_or (And.intro @mg_andT (And.intro @mg_orT (And.intro @o_le (And.intro @o_lt (And.intro @o_ge (And.intro @o_gt (And.intro @o_sub (And.intro @o_add (And.intro @o_eqI (And.intro @o_neI (And.intro @o_eqB (And.intro @o_neB (And.intro @o_lenT (And.intro @o_lenL (And.intro @o_lenS (And.intro @o_lenD (And.intro @o_listT (And.intro @o_listL (And.intro @o_listD (And.intro @o_tupL (And.intro @o_tupT (And.intro @o_all (And.intro @o_any (And.intro @o_inN (And.intro @o_notInN (And.intro @o_inNL (And.intro @o_notInNL (And.intro @nis_len (And.intro @ap_nox (And.intro @ap_endRt (And.intro @ap_endNx (And.intro @o_eqT (And.intro @o_neT (And.intro @o_eqLN (And.intro @o_neLN (And.intro @seqOf_lst (And.intro @seqOf_tup (And.intro @o_inD (And.intro @o_notInD (And.intro @o_inS (And.intro @o_inSL (And.intro @keyOf_str (And.intro @sts_len (And.intro @lnl0 (And.intro @lni0 (And.intro @lnl1 (And.intro @lni1 (And.intro @lnl2 (And.intro @lni2 (And.intro @lnl3 (And.intro @lni3 (And.intro @lnl4 (And.intro @lni4 (And.intro @lnl5 (And.intro @lni5 (And.intro @lnl6 (And.intro @lni6 (And.intro @lnl7 (And.intro @lni7 (And.intro @lnl8 (And.intro @lnl9 (And.intro @lnl10 (And.intro @lnl11 (And.intro @lnl12 (And.intro @lnl13 (And.intro @lnl14 (And.intro @lnl15 (And.intro @lnl16 (And.intro @lnl17 (And.intro @ixt1_0 (And.intro @ixl1_0 (And.intro @ixt2_0 (And.intro @ixl2_0 (And.intro @ixt2_1 (And.intro @ixl2_1 (And.intro @ixt3_0 (And.intro @ixl3_0 (And.intro @ixt3_1 (And.intro @ixl3_1 (And.intro @ixt3_2 (And.intro @ixl3_2 (And.intro @ixt4_0 (And.intro @ixl4_0 (And.intro @ixt4_1 (And.intro @ixl4_1 (And.intro @ixt4_2 (And.intro @ixl4_2 (And.intro @ixt4_3 (And.intro @ixl4_3 (And.intro @ixt5_0 (And.intro @ixl5_0 (And.intro @ixt5_1 (And.intro @ixl5_1 (And.intro @ixt5_2 (And.intro @ixl5_2 (And.intro @ixt5_3 (And.intro @ixl5_3 (And.intro @ixt5_4 (And.intro @ixl5_4 (And.intro @ixt6_0 (And.intro @ixl6_0 (And.intro @ixt6_1 (And.intro @ixl6_1 (And.intro @ixt6_2 (And.intro @ixl6_2 (And.intro @ixt6_3 (And.intro @ixl6_3 (And.intro @ixt6_4 (And.intro @ixl6_4 (And.intro @ixt6_5 (And.intro @ixl6_5 (And.intro @ixt7_0 (And.intro @ixl7_0 (And.intro @ixt7_1 (And.intro @ixl7_1 (And.intro @ixt7_2 (And.intro @ixl7_2 (And.intro @ixt7_3 (And.intro @ixl7_3 (And.intro @ixt7_4 (And.intro @ixl7_4 (And.intro @ixt7_5 (And.intro @ixl7_5 (And.intro @ixt7_6 (@ixl7_6))))))))))))))))))))))))))))))))))))))))))))))))))))))))))))))))))))))))))))))))))))))))))))))))))))))))))))))))))))))))))))))))))))))))))))))
end Ev
namespace Pf
open PySem PySem.Spec PyProof.Rows L2 Ev
def ownC : Nat → Bool := fun c => c == 0 || c == 1 || c == 2 || c == 3
def exm_BadWorlds : D → Option Bool
  | .gl 16 => some true
  | _ => none
def exm_TellError : D → Option Bool
  | .gl 16 => some true
  | _ => none
def kt : D → D → Option Bool
  | .ty t, .ty c => if tyT.contains t && tyC.contains c then some (t == c || (t == "bool" && c == "int")) else none
  | .gl a, .gl b => if ownC a && ownC b then some (a == b) else none
  | .ty t, .gl b => if tyT.contains t && ownC b then some false else none
  | .gl a, .ty c => if ownC a && tyC.contains c then some false else none
  | _, _ => none
def ka (t : D) : List D → Option Bool
  | [] => some false
  | c :: r => match kt t c with
    | some true => some true
    | some false => ka t r
    | none => none
theorem kt_tt : ∀ t ∈ tyT, ∀ c ∈ tyC, kitB t c = some (t == c || (t == "bool" && c == "int")) := by decide +kernel
theorem kt_tm : ∀ c ∈ tyC, PySem.W.kitMeta c = true := by decide +kernel
def noRef : Value → Bool
  | .ref _ => false
  | _ => true
theorem kt_mro : ∀ t ∈ tyT, (PySem.fastBuiltinMro t).map (·.all noRef) = some true := by decide +kernel
theorem noRef_in (C : Addr) : ∀ l : List Value, l.all noRef = true → l.contains (.ref C) = false
  | [], _ => rfl
  | b :: l, h => by
    rw [List.all_cons, Bool.and_eq_true] at h
    rw [List.contains_cons, noRef_in C l h.2, Bool.or_false]
    cases b <;> first | rfl | cases h.1
structure Txt (K : PySem.W.Frag) (mg : Str → Option Value) (Γ Φ Ψ : Nat → Addr) : Prop where
  isi : ∀ c, ownC c = true → ClsI K (Γ c)
  kgc : ∀ c, ownC c = true → ((PySem.W.clsIn K (Γ c)).isSome && PySem.W.typeIn K (.ref (Γ c)) == some (.type "type")) = true
  kgt : ∀ a c, ownC a = true → tyC.contains c = true → PySem.W.subIn K (.ref (Γ a)) (.type c) = some false
  kgg : ∀ a b, ownC a = true → ownC b = true → PySem.W.kitOne K (.ref (Γ a)) (.ref (Γ b)) = some (a == b)
  F_is_number : ∃ fd, Fun K "is_number" "is_number" s_is_number (Φ 1) fd ∧ Binds K fd ["value", "low", "high"] []
  F_are_numbers : ∃ fd, Fun K "are_numbers" "are_numbers" s_are_numbers (Φ 2) fd ∧ Binds K fd ["value", "low", "high"] []
  F_is_name : ∃ fd, Fun K "is_name" "is_name" s_is_name (Φ 3) fd ∧ Binds K fd ["value"] []
  F_is_one_of : ∃ fd, Fun K "is_one_of" "is_one_of" s_is_one_of (Φ 4) fd ∧ Binds K fd ["value", "names"] []
  F_is_chain : ∃ fd, Fun K "is_chain" "is_chain" s_is_chain (Φ 5) fd ∧ Binds K fd ["value", "people"] []
  F_Claim_init : ∃ fd, Fun K "__init__" "Claim.__init__" s_Claim_init (Φ 6) fd ∧ ∀ us rest : List Value, us.length = (["self", "count"] : List Str).length → bindArgs fd ⟨us ++ rest, []⟩ = (newTuple rest >>= fun t => (pure ((["self", "count"] : List Str).zip us ++ [(("worlds" : Str), t)]) : Sem (List (Str × Value))))
  F_Claim_neg : ∃ fd, Fun K "__neg__" "Claim.__neg__" s_Claim_neg (Φ 12) fd ∧ Binds K fd ["self"] []
  F_Claim_sure : ∃ fd, Fun K "sure" "Claim.sure" s_Claim_sure (Φ 7) fd ∧ Binds K fd ["cls", "count"] []
  F_Claim_total : ∃ fd, Fun K "total" "Claim.total" s_Claim_total (Φ 8) fd ∧ Binds K fd ["self"] []
  F_Claim_worlds : ∃ fd, Fun K "worlds" "Claim.worlds" s_Claim_worlds (Φ 9) fd ∧ Binds K fd ["self"] []
  F_is_claim : ∃ fd, Fun K "is_claim" "is_claim" s_is_claim (Φ 36) fd ∧ Binds K fd ["value", "count"] []
  F_check_partner : ∃ fd, Fun K "check_partner" "check_partner" s_check_partner (Φ 34) fd ∧ Binds K fd ["other", "total"] []
  F_Claim_and : ∃ fd, Fun K "__and__" "Claim.__and__" s_Claim_and (Φ 10) fd ∧ Binds K fd ["self", "other"] []
  F_Claim_or : ∃ fd, Fun K "__or__" "Claim.__or__" s_Claim_or (Φ 11) fd ∧ Binds K fd ["self", "other"] []
  F_Claim_contains : ∃ fd, Fun K "__contains__" "Claim.__contains__" s_Claim_contains (Φ 13) fd ∧ Binds K fd ["self", "x"] []
  F_Claim_len : ∃ fd, Fun K "__len__" "Claim.__len__" s_Claim_len (Φ 14) fd ∧ Binds K fd ["self"] []
  F_Claim_eq : ∃ fd, Fun K "__eq__" "Claim.__eq__" s_Claim_eq (Φ 15) fd ∧ Binds K fd ["self", "other"] []
  F_is_goal : ∃ fd, Fun K "is_goal" "is_goal" s_is_goal (Φ 43) fd ∧ Binds K fd ["value", "people"] []
  F_are_goals : ∃ fd, Fun K "are_goals" "are_goals" s_are_goals (Φ 42) fd ∧ Binds K fd ["value", "people"] []
  F_is_sentence : ∃ fd, Fun K "is_sentence" "is_sentence" s_is_sentence (Φ 41) fd ∧ Binds K fd ["value", "count", "real"] []
  F_are_sentences : ∃ fd, Fun K "are_sentences" "are_sentences" s_are_sentences (Φ 40) fd ∧ Binds K fd ["value", "count", "real"] []
  F_are_sights : ∃ fd, Fun K "are_sights" "are_sights" s_are_sights (Φ 39) fd ∧ Binds K fd ["value", "count"] []
  F_are_people : ∃ fd, Fun K "are_people" "are_people" s_are_people (Φ 38) fd ∧ Binds K fd ["value", "count"] []
  F_are_world_and_count : ∃ fd, Fun K "are_world_and_count" "are_world_and_count" s_are_world_and_count (Φ 37) fd ∧ Binds K fd ["real", "count"] []
  F_Scene_init : ∃ fd, Fun K "__init__" "Scene.__init__" s_Scene_init (Φ 16) fd ∧ Binds K fd ["self", "count", "real", "people", "fact", "sentences", "goals"] []
  F_Scene_actual : ∃ fd, Fun K "actual" "Scene.actual" s_Scene_actual (Φ 17) fd ∧ Binds K fd ["self"] []
  F_Scene_fact : ∃ fd, Fun K "fact" "Scene.fact" s_Scene_fact (Φ 18) fd ∧ Binds K fd ["self"] []
  F_Scene_people : ∃ fd, Fun K "people" "Scene.people" s_Scene_people (Φ 19) fd ∧ Binds K fd ["self"] []
  F_Scene_names : ∃ fd, Fun K "names" "Scene.names" s_Scene_names (Φ 20) fd ∧ Binds K fd ["self"] []
  F_Scene_goals : ∃ fd, Fun K "goals" "Scene.goals" s_Scene_goals (Φ 21) fd ∧ Binds K fd ["self"] []
  F_Scene__sentence : ∃ fd, Fun K "_sentence" "Scene._sentence" s_Scene__sentence (Φ 25) fd ∧ Binds K fd ["self", "name"] []
  F_Scene_getitem : ∃ fd, Fun K "__getitem__" "Scene.__getitem__" s_Scene_getitem (Φ 22) fd ∧ Binds K fd ["self", "at"] []
  F_Scene_iter : ∃ fd, Fun K "__iter__" "Scene.__iter__" s_Scene_iter (Φ 23) fd ∧ Binds K fd ["self"] []
  F_Scene_cost : ∃ fd, Fun K "cost" "Scene.cost" s_Scene_cost (Φ 24) fd ∧ Binds K fd ["self", "name"] []
  F_Scene_contains : ∃ fd, Fun K "__contains__" "Scene.__contains__" s_Scene_contains (Φ 26) fd ∧ Binds K fd ["self", "x"] []
  F_Scene_len : ∃ fd, Fun K "__len__" "Scene.__len__" s_Scene_len (Φ 27) fd ∧ Binds K fd ["self"] []
  F_Scene_in_order : ∃ fd, Fun K "in_order" "Scene.in_order" s_Scene_in_order (Φ 31) fd ∧ Binds K fd ["self", "names"] []
  F_Scene_check_set : ∃ fd, Fun K "check_set" "Scene.check_set" s_Scene_check_set (Φ 30) fd ∧ Binds K fd ["self", "said"] []
  F_Scene_remaining : ∃ fd, Fun K "remaining" "Scene.remaining" s_Scene_remaining (Φ 29) fd ∧ Binds K fd ["self", "said"] []
  F_Scene_call : ∃ fd, Fun K "__call__" "Scene.__call__" s_Scene_call (Φ 28) fd ∧ Binds K fd ["self", "said"] []
  F_Scene_sees : ∃ fd, Fun K "sees" "Scene.sees" s_Scene_sees (Φ 32) fd ∧ Binds K fd ["self", "person", "world"] []
  F_Scene_eq : ∃ fd, Fun K "__eq__" "Scene.__eq__" s_Scene_eq (Φ 33) fd ∧ Binds K fd ["self", "other"] []
  F_check_scene : ∃ fd, Fun K "check_scene" "check_scene" s_check_scene (Φ 35) fd ∧ Binds K fd ["scene"] []
  F_is_fact_in : ∃ fd, Fun K "is_fact_in" "is_fact_in" s_is_fact_in (Φ 56) fd ∧ Binds K fd ["scene", "worlds"] []
  F_confused : ∃ fd, Fun K "confused" "confused" s_confused (Φ 51) fd ∧ Binds K fd ["scene", "left", "person", "worlds"] []
  F_smallest_circle : ∃ fd, Fun K "smallest_circle" "smallest_circle" s_smallest_circle (Φ 52) fd ∧ Binds K fd ["scene", "left", "chain"] []
  F_worlds_left : ∃ fd, Fun K "worlds_left" "worlds_left" s_worlds_left (Φ 50) fd ∧ Binds K fd ["scene", "said", "chain"] []
  F_holds : ∃ fd, Fun K "holds" "holds" s_holds (Φ 44) fd ∧ Binds K fd ["scene", "said", "chain"] []
  F_path_through : ∃ fd, Fun K "path_through" "path_through" s_path_through (Φ 53) fd ∧ Binds K fd ["scene", "rings", "chain"] []
  F_evidence : ∃ fd, Fun K "evidence" "evidence" s_evidence (Φ 45) fd ∧ Binds K fd ["scene", "said", "chain"] []
  F_meets : ∃ fd, Fun K "meets" "meets" s_meets (Φ 46) fd ∧ Binds K fd ["scene", "said"] []
  F_has_all : ∃ fd, Fun K "has_all" "has_all" s_has_all (Φ 55) fd ∧ Binds K fd ["worlds", "others"] []
  F_is_ring : ∃ fd, Fun K "is_ring" "is_ring" s_is_ring (Φ 54) fd ∧ Binds K fd ["worlds", "left"] []
  F_is_circle : ∃ fd, Fun K "is_circle" "is_circle" s_is_circle (Φ 47) fd ∧ Binds K fd ["scene", "said", "chain", "found"] []
  F_is_path : ∃ fd, Fun K "is_path" "is_path" s_is_path (Φ 48) fd ∧ Binds K fd ["scene", "said", "chain", "found"] []
  F_unmet_goals : ∃ fd, Fun K "unmet_goals" "unmet_goals" s_unmet_goals (Φ 49) fd ∧ Binds K fd ["scene", "said"] []
  F_Telling_init : ∃ fd, Fun K "__init__" "Telling.__init__" s_Telling_init (Φ 57) fd ∧ Binds K fd ["self", "said", "reasons", "doubts"] []
  F_is_proof : ∃ fd, Fun K "is_proof" "is_proof" s_is_proof (Φ 77) fd ∧ Binds K fd ["scene", "said", "chain", "known", "found"] []
  F_is_doubt : ∃ fd, Fun K "is_doubt" "is_doubt" s_is_doubt (Φ 76) fd ∧ Binds K fd ["scene", "said", "doubt"] []
  F_are_doubts : ∃ fd, Fun K "are_doubts" "are_doubts" s_are_doubts (Φ 75) fd ∧ Binds K fd ["scene", "sets", "doubts"] []
  F_are_reasons : ∃ fd, Fun K "are_reasons" "are_reasons" s_are_reasons (Φ 74) fd ∧ Binds K fd ["scene", "said", "reasons"] []
  F_sets_of : ∃ fd, Fun K "sets_of" "sets_of" s_sets_of (Φ 69) fd ∧ Binds K fd ["names", "size"] []
  F_all_sets : ∃ fd, Fun K "all_sets" "all_sets" s_all_sets (Φ 68) fd ∧ Binds K fd ["scene"] []
  F_set_cost : ∃ fd, Fun K "set_cost" "set_cost" s_set_cost (Φ 67) fd ∧ Binds K fd ["scene", "said"] []
  F_cheaper_sets : ∃ fd, Fun K "cheaper_sets" "cheaper_sets" s_cheaper_sets (Φ 70) fd ∧ Binds K fd ["scene", "cost"] []
  F_Telling_shows : ∃ fd, Fun K "shows" "Telling.shows" s_Telling_shows (Φ 58) fd ∧ Binds K fd ["self", "scene"] []
  F_Telling_eq : ∃ fd, Fun K "__eq__" "Telling.__eq__" s_Telling_eq (Φ 59) fd ∧ Binds K fd ["self", "other"] []
  F_NoTelling_init : ∃ fd, Fun K "__init__" "NoTelling.__init__" s_NoTelling_init (Φ 60) fd ∧ Binds K fd ["self", "doubts"] []
  F_NoTelling_shows : ∃ fd, Fun K "shows" "NoTelling.shows" s_NoTelling_shows (Φ 61) fd ∧ Binds K fd ["self", "scene"] []
  F_NoTelling_eq : ∃ fd, Fun K "__eq__" "NoTelling.__eq__" s_NoTelling_eq (Φ 62) fd ∧ Binds K fd ["self", "other"] []
  F_doubt_about : ∃ fd, Fun K "doubt_about" "doubt_about" s_doubt_about (Φ 73) fd ∧ Binds K fd ["scene", "said"] []
  F_doubts_about : ∃ fd, Fun K "doubts_about" "doubts_about" s_doubts_about (Φ 72) fd ∧ Binds K fd ["scene", "sets"] []
  F_good_sets : ∃ fd, Fun K "good_sets" "good_sets" s_good_sets (Φ 64) fd ∧ Binds K fd ["scene"] []
  F_cheapest : ∃ fd, Fun K "cheapest" "cheapest" s_cheapest (Φ 63) fd ∧ Binds K fd ["scene"] []
  F_extensions : ∃ fd, Fun K "extensions" "extensions" s_extensions (Φ 71) fd ∧ Binds K fd ["scene"] []
  F_breaches : ∃ fd, Fun K "breaches" "breaches" s_breaches (Φ 65) fd ∧ Binds K fd ["scene"] []
  F_rescues : ∃ fd, Fun K "rescues" "rescues" s_rescues (Φ 66) fd ∧ Binds K fd ["scene"] []
  F_law_scene : ∃ fd, Fun K "_law_scene" "_law_scene" s_law_scene (Φ 78) fd ∧ Binds K fd ["_law_worth", "_law_goals"] []
  F_law_claims_right : ∃ fd, Fun K "_law_claims_right" "_law_claims_right" s_law_claims_right (Φ 79) fd ∧ Binds K fd [] []
  F_law_knowing_right : ∃ fd, Fun K "_law_knowing_right" "_law_knowing_right" s_law_knowing_right (Φ 80) fd ∧ Binds K fd ["_law_worth"] []
  F_law_evidence_right : ∃ fd, Fun K "_law_evidence_right" "_law_evidence_right" s_law_evidence_right (Φ 81) fd ∧ Binds K fd [] []
  F_law_tellings_right : ∃ fd, Fun K "_law_tellings_right" "_law_tellings_right" s_law_tellings_right (Φ 82) fd ∧ Binds K fd ["_law_worth"] []
  F_law_answers_right : ∃ fd, Fun K "_law_answers_right" "_law_answers_right" s_law_answers_right (Φ 83) fd ∧ Binds K fd [] []
  F_law : ∃ fd, Fun K "law" "law" s_law (Φ 84) fd ∧ Binds K fd ["_law_script"] []
  a_Claim_total : NoAttr K (Γ 0) "_total"
  a_Claim_worlds : NoAttr K (Γ 0) "_worlds"
  a_NoTellingdoubts : NoAttr K (Γ 3) "doubts"
  a_Scene_count : NoAttr K (Γ 1) "_count"
  a_Scene_fact : NoAttr K (Γ 1) "_fact"
  a_Scene_goals : NoAttr K (Γ 1) "_goals"
  a_Scene_real : NoAttr K (Γ 1) "_real"
  a_Scene_sentences : NoAttr K (Γ 1) "_sentences"
  a_Scene_sights : NoAttr K (Γ 1) "_sights"
  a_Tellingdoubts : NoAttr K (Γ 2) "doubts"
  a_Tellingreasons : NoAttr K (Γ 2) "reasons"
  a_Tellingsaid : NoAttr K (Γ 2) "said"
  b_Claim : PySem.W.findIn K (.ref (Γ 0)) "__bool__" = some none
  c_BadWorlds : mg "BadWorlds" = some (.ref (Γ 16))
  c_Claim : mg "Claim" = some (.ref (Γ 0))
  c_NoTelling : mg "NoTelling" = some (.ref (Γ 3))
  c_Scene : mg "Scene" = some (.ref (Γ 1))
  c_TellError : mg "TellError" = some (.ref (Γ 10))
  c_Telling : mg "Telling" = some (.ref (Γ 2))
  cl_Claim : Cls K (Γ 0)
  cl_NoTelling : Cls K (Γ 3)
  cl_Scene : Cls K (Γ 1)
  cl_Telling : Cls K (Γ 2)
  cr_Claim : ClX.CRead K (Γ 0) (.type "type")
  cm_Claim_sure : ClX.CMet K (Γ 0) (.type "type") "sure" (Ψ 7) (Φ 7)
  co_Scene : StX.CallO K (Γ 1) (Φ 28)
  nf_Claim : PySem.W.notFirst K (Γ 0) (.ref (Γ 0)) = true
  ne_Claim : PySem.W.findIn K (.ref (Γ 0)) "__ne__" = some (some (.builtin "object.__ne__"))
  ob_Claim : PySem.W.subIn K (.ref (Γ 0)) (.type "object") = some true
  m_all_sets : mg "all_sets" = some (.ref (Φ 68))
  kp_all_sets : PySem.W.keepIn K (.ref (Φ 68)) = true
  m_are_doubts : mg "are_doubts" = some (.ref (Φ 75))
  kp_are_doubts : PySem.W.keepIn K (.ref (Φ 75)) = true
  m_are_goals : mg "are_goals" = some (.ref (Φ 42))
  kp_are_goals : PySem.W.keepIn K (.ref (Φ 42)) = true
  m_are_numbers : mg "are_numbers" = some (.ref (Φ 2))
  kp_are_numbers : PySem.W.keepIn K (.ref (Φ 2)) = true
  m_are_people : mg "are_people" = some (.ref (Φ 38))
  kp_are_people : PySem.W.keepIn K (.ref (Φ 38)) = true
  m_are_reasons : mg "are_reasons" = some (.ref (Φ 74))
  kp_are_reasons : PySem.W.keepIn K (.ref (Φ 74)) = true
  m_are_sentences : mg "are_sentences" = some (.ref (Φ 40))
  kp_are_sentences : PySem.W.keepIn K (.ref (Φ 40)) = true
  m_are_sights : mg "are_sights" = some (.ref (Φ 39))
  kp_are_sights : PySem.W.keepIn K (.ref (Φ 39)) = true
  m_are_world_and_count : mg "are_world_and_count" = some (.ref (Φ 37))
  kp_are_world_and_count : PySem.W.keepIn K (.ref (Φ 37)) = true
  m_breaches : mg "breaches" = some (.ref (Φ 65))
  kp_breaches : PySem.W.keepIn K (.ref (Φ 65)) = true
  m_cheaper_sets : mg "cheaper_sets" = some (.ref (Φ 70))
  kp_cheaper_sets : PySem.W.keepIn K (.ref (Φ 70)) = true
  m_cheapest : mg "cheapest" = some (.ref (Φ 63))
  kp_cheapest : PySem.W.keepIn K (.ref (Φ 63)) = true
  m_check_partner : mg "check_partner" = some (.ref (Φ 34))
  kp_check_partner : PySem.W.keepIn K (.ref (Φ 34)) = true
  m_check_scene : mg "check_scene" = some (.ref (Φ 35))
  kp_check_scene : PySem.W.keepIn K (.ref (Φ 35)) = true
  m_confused : mg "confused" = some (.ref (Φ 51))
  kp_confused : PySem.W.keepIn K (.ref (Φ 51)) = true
  m_doubt_about : mg "doubt_about" = some (.ref (Φ 73))
  kp_doubt_about : PySem.W.keepIn K (.ref (Φ 73)) = true
  m_doubts_about : mg "doubts_about" = some (.ref (Φ 72))
  kp_doubts_about : PySem.W.keepIn K (.ref (Φ 72)) = true
  m_evidence : mg "evidence" = some (.ref (Φ 45))
  kp_evidence : PySem.W.keepIn K (.ref (Φ 45)) = true
  m_extensions : mg "extensions" = some (.ref (Φ 71))
  kp_extensions : PySem.W.keepIn K (.ref (Φ 71)) = true
  m_good_sets : mg "good_sets" = some (.ref (Φ 64))
  kp_good_sets : PySem.W.keepIn K (.ref (Φ 64)) = true
  m_has_all : mg "has_all" = some (.ref (Φ 55))
  kp_has_all : PySem.W.keepIn K (.ref (Φ 55)) = true
  m_holds : mg "holds" = some (.ref (Φ 44))
  kp_holds : PySem.W.keepIn K (.ref (Φ 44)) = true
  m_is_chain : mg "is_chain" = some (.ref (Φ 5))
  kp_is_chain : PySem.W.keepIn K (.ref (Φ 5)) = true
  m_is_circle : mg "is_circle" = some (.ref (Φ 47))
  kp_is_circle : PySem.W.keepIn K (.ref (Φ 47)) = true
  m_is_claim : mg "is_claim" = some (.ref (Φ 36))
  kp_is_claim : PySem.W.keepIn K (.ref (Φ 36)) = true
  m_is_doubt : mg "is_doubt" = some (.ref (Φ 76))
  kp_is_doubt : PySem.W.keepIn K (.ref (Φ 76)) = true
  m_is_fact_in : mg "is_fact_in" = some (.ref (Φ 56))
  kp_is_fact_in : PySem.W.keepIn K (.ref (Φ 56)) = true
  m_is_goal : mg "is_goal" = some (.ref (Φ 43))
  kp_is_goal : PySem.W.keepIn K (.ref (Φ 43)) = true
  m_is_name : mg "is_name" = some (.ref (Φ 3))
  kp_is_name : PySem.W.keepIn K (.ref (Φ 3)) = true
  m_is_number : mg "is_number" = some (.ref (Φ 1))
  kp_is_number : PySem.W.keepIn K (.ref (Φ 1)) = true
  m_is_one_of : mg "is_one_of" = some (.ref (Φ 4))
  kp_is_one_of : PySem.W.keepIn K (.ref (Φ 4)) = true
  m_is_path : mg "is_path" = some (.ref (Φ 48))
  kp_is_path : PySem.W.keepIn K (.ref (Φ 48)) = true
  m_is_proof : mg "is_proof" = some (.ref (Φ 77))
  kp_is_proof : PySem.W.keepIn K (.ref (Φ 77)) = true
  m_is_ring : mg "is_ring" = some (.ref (Φ 54))
  kp_is_ring : PySem.W.keepIn K (.ref (Φ 54)) = true
  m_is_sentence : mg "is_sentence" = some (.ref (Φ 41))
  kp_is_sentence : PySem.W.keepIn K (.ref (Φ 41)) = true
  m_law_answers_right : mg "_law_answers_right" = some (.ref (Φ 83))
  kp_law_answers_right : PySem.W.keepIn K (.ref (Φ 83)) = true
  m_law_claims_right : mg "_law_claims_right" = some (.ref (Φ 79))
  kp_law_claims_right : PySem.W.keepIn K (.ref (Φ 79)) = true
  m_law_evidence_right : mg "_law_evidence_right" = some (.ref (Φ 81))
  kp_law_evidence_right : PySem.W.keepIn K (.ref (Φ 81)) = true
  m_law_knowing_right : mg "_law_knowing_right" = some (.ref (Φ 80))
  kp_law_knowing_right : PySem.W.keepIn K (.ref (Φ 80)) = true
  m_law_scene : mg "_law_scene" = some (.ref (Φ 78))
  kp_law_scene : PySem.W.keepIn K (.ref (Φ 78)) = true
  m_law_tellings_right : mg "_law_tellings_right" = some (.ref (Φ 82))
  kp_law_tellings_right : PySem.W.keepIn K (.ref (Φ 82)) = true
  m_meets : mg "meets" = some (.ref (Φ 46))
  kp_meets : PySem.W.keepIn K (.ref (Φ 46)) = true
  m_path_through : mg "path_through" = some (.ref (Φ 53))
  kp_path_through : PySem.W.keepIn K (.ref (Φ 53)) = true
  m_rescues : mg "rescues" = some (.ref (Φ 66))
  kp_rescues : PySem.W.keepIn K (.ref (Φ 66)) = true
  m_set_cost : mg "set_cost" = some (.ref (Φ 67))
  kp_set_cost : PySem.W.keepIn K (.ref (Φ 67)) = true
  m_sets_of : mg "sets_of" = some (.ref (Φ 69))
  kp_sets_of : PySem.W.keepIn K (.ref (Φ 69)) = true
  m_smallest_circle : mg "smallest_circle" = some (.ref (Φ 52))
  kp_smallest_circle : PySem.W.keepIn K (.ref (Φ 52)) = true
  m_unmet_goals : mg "unmet_goals" = some (.ref (Φ 49))
  kp_unmet_goals : PySem.W.keepIn K (.ref (Φ 49)) = true
  m_worlds_left : mg "worlds_left" = some (.ref (Φ 50))
  kp_worlds_left : PySem.W.keepIn K (.ref (Φ 50)) = true
  fi_Scene_getitem : PySem.W.fnIn K (Φ 22) = true
  k_LETTERS : ∃ t, mg "LETTERS" = some (.str "abcdefghijklmnopqrstuvwxyz" t)
  me_NoTelling_shows : Meth K (Γ 3) "shows" (Φ 61)
  me_Scene_sentence : Meth K (Γ 1) "_sentence" (Φ 25)
  me_Scene_check_set : Meth K (Γ 1) "check_set" (Φ 30)
  me_Scene_cost : Meth K (Γ 1) "cost" (Φ 24)
  me_Scene_in_order : Meth K (Γ 1) "in_order" (Φ 31)
  me_Scene_remaining : Meth K (Γ 1) "remaining" (Φ 29)
  me_Scene_sees : Meth K (Γ 1) "sees" (Φ 32)
  me_Telling_shows : Meth K (Γ 2) "shows" (Φ 58)
  mk_Claim : Mk K (Γ 0) (Φ 6)
  mk_NoTelling : Mk K (Γ 3) (Φ 60)
  mk_Scene : Mk K (Γ 1) (Φ 16)
  mk_Telling : Mk K (Γ 2) (Φ 57)
  n_abs : mg "abs" = none
  n_all : mg "all" = none
  n_bool : mg "bool" = none
  n_dict : mg "dict" = none
  n_enumerate : mg "enumerate" = none
  n_int : mg "int" = none
  n_isinstance : mg "isinstance" = none
  n_len : mg "len" = none
  n_list : mg "list" = none
  n_min : mg "min" = none
  n_range : mg "range" = none
  n_reversed : mg "reversed" = none
  n_set : mg "set" = none
  n_sorted : mg "sorted" = none
  n_str : mg "str" = none
  n_sum : mg "sum" = none
  n_tuple : mg "tuple" = none
  n_zip : mg "zip" = none
  o_Claim_and : PySem.W.findIn K (.ref (Γ 0)) "__and__" = some (some (.ref (Φ 10))) ∧ PySem.W.isFn K (.ref (Φ 10)) = true
  s_Claim : PySem.W.selfFirst K (Γ 0) = true
  o_Claim_contains : PySem.W.findIn K (.ref (Γ 0)) "__contains__" = some (some (.ref (Φ 13))) ∧ PySem.W.isFn K (.ref (Φ 13)) = true
  o_Claim_eq : PySem.W.findIn K (.ref (Γ 0)) "__eq__" = some (some (.ref (Φ 15))) ∧ PySem.W.isFn K (.ref (Φ 15)) = true
  o_Claim_len : PySem.W.findIn K (.ref (Γ 0)) "__len__" = some (some (.ref (Φ 14))) ∧ PySem.W.isFn K (.ref (Φ 14)) = true
  o_Claim_neg : PySem.W.findIn K (.ref (Γ 0)) "__neg__" = some (some (.ref (Φ 12))) ∧ PySem.W.isFn K (.ref (Φ 12)) = true
  o_Claim_or : PySem.W.findIn K (.ref (Γ 0)) "__or__" = some (some (.ref (Φ 11))) ∧ PySem.W.isFn K (.ref (Φ 11)) = true
  o_Scene_contains : PySem.W.findIn K (.ref (Γ 1)) "__contains__" = some (some (.ref (Φ 26))) ∧ PySem.W.isFn K (.ref (Φ 26)) = true
  o_Scene_getitem : PySem.W.findIn K (.ref (Γ 1)) "__getitem__" = some (some (.ref (Φ 22))) ∧ PySem.W.isFn K (.ref (Φ 22)) = true
  p_Claim_total : PropOf K (Γ 0) "total" (Ψ 8) (Φ 8)
  p_Claim_worlds : PropOf K (Γ 0) "worlds" (Ψ 9) (Φ 9)
  p_Scene_actual : PropOf K (Γ 1) "actual" (Ψ 17) (Φ 17)
  p_Scene_fact : PropOf K (Γ 1) "fact" (Ψ 18) (Φ 18)
  p_Scene_goals : PropOf K (Γ 1) "goals" (Ψ 21) (Φ 21)
  p_Scene_names : PropOf K (Γ 1) "names" (Ψ 20) (Φ 20)
  p_Scene_people : PropOf K (Γ 1) "people" (Ψ 19) (Φ 19)
  x_BadWorlds : OwnX K (Γ 16)
  xm_BadWorlds : ∀ (d : D) (cls : Value) (b : Bool), ClsR Γ d cls → exm_BadWorlds d = some b → PySem.W.exmOne K cls (.ref (Γ 16)) = some b
  xm_TellError : ∀ (d : D) (cls : Value) (b : Bool), ClsR Γ d cls → exm_TellError d = some b → PySem.W.exmOne K cls (.ref (Γ 10)) = some b
section
variable {Γ Φ Ψ : Nat → Addr} {P : Program} {w : World} {K : PySem.W.Frag} {mg : Str → Option Value} {base : Heap}
theorem Txt.kt_ok (T : Txt K mg Γ Φ Ψ) (t c : D) (b : Bool) (h : kt t c = some b) : PySem.W.kitOne K (tagV Γ t) (tagV Γ c) = some b := by
  unfold kt at h
  split at h
  · split at h
    · rename_i z
      rw [Bool.and_eq_true, List.contains_iff_mem, List.contains_iff_mem] at z
      rw [← h]
      exact kit_ty (kt_tt _ z.1 _ z.2)
    · cases h
  · split at h
    · rename_i z
      rw [Bool.and_eq_true] at z
      rw [← h]
      exact T.kgg _ _ z.1 z.2
    · cases h
  · split at h
    · rename_i t b z
      rw [Bool.and_eq_true, List.contains_iff_mem] at z
      cases h
      obtain ⟨l, e1, e2⟩ := Option.map_eq_some_iff.mp (kt_mro _ z.1)
      have e : (Value.type t == Value.ref (Γ b)) = false := rfl
      show (if (Value.type t == Value.ref (Γ b)) = true then some true else PySem.W.kitCls K (.type t) (.ref (Γ b))) = some false
      rw [e, if_neg Bool.false_ne_true]
      show (if _ then PySem.W.subIn K (.type t) (.ref (Γ b)) else none) = some false
      rw [if_pos (T.kgc _ z.2)]
      show (PySem.fastBuiltinMro t).map (·.contains (.ref (Γ b))) = some false
      rw [e1]
      show some (l.contains _) = _
      rw [noRef_in _ _ e2]
    · cases h
  · split at h
    · rename_i a c z
      rw [Bool.and_eq_true, List.contains_iff_mem] at z
      cases h
      have e : (Value.ref (Γ a) == Value.type c) = false := rfl
      show (if (Value.ref (Γ a) == Value.type c) = true then some true else PySem.W.kitCls K (.ref (Γ a)) (.type c)) = some false
      rw [e, if_neg Bool.false_ne_true]
      show (if _ then PySem.W.subIn K (.ref (Γ a)) (.type c) else none) = some false
      rw [if_pos (kt_tm _ z.2)]
      exact T.kgt _ _ z.1 (List.contains_iff_mem.mpr z.2)
    · cases h
  · cases h
theorem Txt.ka_ok (T : Txt K mg Γ Φ Ψ) (t : D) : ∀ (cs : List D) (b : Bool), ka t cs = some b → PySem.W.kitAny K (tagV Γ t) (cs.map (tagV Γ)) = some b
  | [], b, h => by cases h; rfl
  | c :: r, b, h => by
    unfold ka at h
    cases e : kt t c with
    | none => rw [e] at h; cases h
    | some v =>
      rw [e] at h
      refine kitAny_cons (T.kt_ok t c v e) (fun z => ?_) fun z => ?_
      · subst z
        exact T.ka_ok t r b h
      · subst z
        cases h
        rfl
def f_is_number : Fd := runB 3 3 (sRet (eAnd (eCall (opIsi ownC kt) (aCons (eVar 0) (aCons (eC (.ty "int")) aNil))) (eAnd (eNot (eCall (opIsi ownC kt) (aCons (eVar 0) (aCons (eC (.ty "bool")) aNil)))) (eChain opLe opLe (eVar 1) (eVar 0) (eVar 2)))))
theorem sc_is_number : FnScope ["value", "low", "high"] ["value", "low", "high"] (defScope s_is_number) := ⟨rfl, rfl, rfl, by decide +kernel, rfl, by decide +kernel, by decide +kernel⟩
theorem ok_is_number (T : Txt K mg Γ Φ Ψ) : FnF Γ P w K mg base 1 (Φ 1) f_is_number := by
  obtain ⟨fd, hF, hb⟩ := T.F_is_number
  refine fn_body hF sc_is_number hb (by decide) fun cdv A outer s H E hr => ?_
  exact (b_one (s_ret (s_and (s_callB call_isi (rd_isi T.isi T.kt_ok) (by rfl) T.n_isinstance (by decide +kernel) (a_cons (s_var rfl) (a_cons (s_ty (by rfl) T.n_int (by decide +kernel) (by decide)) a_nil))) (s_and (s_not (s_callB call_isi (rd_isi T.isi T.kt_ok) (by rfl) T.n_isinstance (by decide +kernel) (a_cons (s_var rfl) (a_cons (s_ty (by rfl) T.n_bool (by decide +kernel) (by decide)) a_nil)))) (s_one (s_chain ok_le ok_le (s_var rfl) (s_var rfl) (s_var rfl)))))))

def f_are_numbers : Fd := runB 4 3 (sRet (eAnd (eCall (opIsi ownC kt) (aCons (eVar 0) (aCons (eC (.ty "tuple")) aNil))) (eCall opAll (aCons (eLc (iAny (eVar 0)) (.slot 3) tYesD (eCall f_is_number (aCons (eVar 3) (aCons (eVar 1) (aCons (eVar 2) aNil)))) [3]) aNil))))
theorem sc_are_numbers : FnScope ["value", "low", "high", "number"] ["value", "low", "high"] (defScope s_are_numbers) := ⟨rfl, rfl, rfl, by decide +kernel, rfl, by decide +kernel, by decide +kernel⟩
theorem ok_are_numbers (T : Txt K mg Γ Φ Ψ) : FnF Γ P w K mg base 2 (Φ 2) f_are_numbers := by
  obtain ⟨fd, hF, hb⟩ := T.F_are_numbers
  refine fn_body hF sc_are_numbers hb (by decide) fun cdv A outer s H E hr => ?_
  exact (b_one (s_ret (s_and (s_callB call_isi (rd_isi T.isi T.kt_ok) (by rfl) T.n_isinstance (by decide +kernel) (a_cons (s_var rfl) (a_cons (s_ty (by rfl) T.n_tuple (by decide +kernel) (by decide)) a_nil))) (s_one (s_callB (cr_all rfl) rd_all (by rfl) T.n_all (by decide +kernel) (a_cons (s_lc (own := [("number", 3)]) rfl sc_are_numbers.nd (i_any (s_var rfl)) (blkOk_by (N := ["value", "low", "high", "number"]) (sc := defScope s_are_numbers) (by decide +kernel)) (by decide) (fun s H C cl fp => (pgN (i := 3) sc_are_numbers.nd rfl)) (fun s H C cl fp => ts_nil) (fun s H C cl fp => (s_call (ok_is_number T) (hr.mono (by decide)) pz0 (by rfl) T.m_is_number T.kp_is_number (a_cons (s_var rfl) (a_cons (s_var rfl) (a_cons (s_var rfl) a_nil)))))) a_nil))))))

def f_is_name : Fd := runB 2 1 (bCons (sIf (tOr (tNot (eTru (eCall (opIsi ownC kt) (aCons (eVar 0) (aCons (eC (.ty "str")) aNil))))) (tNot (tChain opLe opLe (eC (.int 1)) (eCall opLenU (aCons (eVar 0) aNil)) (eC (.int 8))))) (sRet (eC (.bl false))) bNil) (sRet (eCall opAll (aCons (eLc (iAny (eVar 0)) (.slot 1) tYesD (eBin opInA (eVar 1) (eC (.str "abcdefghijklmnopqrstuvwxyz"))) [1]) aNil))))
theorem sc_is_name : FnScope ["value", "letter"] ["value"] (defScope s_is_name) := ⟨rfl, rfl, rfl, by decide +kernel, rfl, by decide +kernel, by decide +kernel⟩
theorem ok_is_name (T : Txt K mg Γ Φ Ψ) : FnF Γ P w K mg base 1 (Φ 3) f_is_name := by
  obtain ⟨fd, hF, hb⟩ := T.F_is_name
  refine fn_body hF sc_is_name hb (by decide) fun cdv A outer s H E hr => ?_
  exact (b_cons (s_if (t_bool (w_or (t_not (t_truth (s_callB call_isi (rd_isi T.isi T.kt_ok) (by rfl) T.n_isinstance (by decide +kernel) (a_cons (s_var rfl) (a_cons (s_ty (by rfl) T.n_str (by decide +kernel) (by decide)) a_nil))))) (w_or1 (t_not (t_chain ok_le ok_le s_int (s_callIf (c := isDkL) (s_callB call_lenRd rd_lenDk (by rfl) T.n_len (by decide +kernel) (a_cons (s_var rfl) a_nil)) (s_callB call_len3 rd_len (by rfl) T.n_len (by decide +kernel) (a_cons (s_var rfl) a_nil))) s_int))))) (b_one (s_ret s_bl)) b_nil) (b_one (s_ret (s_callB (cr_all rfl) rd_all (by rfl) T.n_all (by decide +kernel) (a_cons (s_lc (own := [("letter", 1)]) rfl sc_is_name.nd (i_any (s_var rfl)) (blkOk_by (N := ["value", "letter"]) (sc := defScope s_is_name) (by decide +kernel)) (by decide) (fun s H C cl fp => (pgN (i := 1) sc_is_name.nd rfl)) (fun s H C cl fp => ts_nil) (fun s H C cl fp => (s_inA (hu_of hr) (s_var rfl) (s_gstr (by rfl) T.k_LETTERS)))) a_nil)))))

def f_is_one_of : Fd := runB 2 2 (sRet (eAnd (eCall (opIsi ownC kt) (aCons (eVar 0) (aCons (eC (.ty "str")) aNil))) (eBin opInA (eVar 0) (eVar 1))))
theorem sc_is_one_of : FnScope ["value", "names"] ["value", "names"] (defScope s_is_one_of) := ⟨rfl, rfl, rfl, by decide +kernel, rfl, by decide +kernel, by decide +kernel⟩
theorem ok_is_one_of (T : Txt K mg Γ Φ Ψ) : FnF Γ P w K mg base 1 (Φ 4) f_is_one_of := by
  obtain ⟨fd, hF, hb⟩ := T.F_is_one_of
  refine fn_body hF sc_is_one_of hb (by decide) fun cdv A outer s H E hr => ?_
  exact (b_one (s_ret (s_and (s_callB call_isi (rd_isi T.isi T.kt_ok) (by rfl) T.n_isinstance (by decide +kernel) (a_cons (s_var rfl) (a_cons (s_ty (by rfl) T.n_str (by decide +kernel) (by decide)) a_nil))) (s_one (s_inA (hu_of hr) (s_var rfl) (s_var rfl))))))

def f_is_chain : Fd := runB 3 2 (bCons (sIf (tOr (tNot (eTru (eCall (opIsi ownC kt) (aCons (eVar 0) (aCons (eC (.ty "tuple")) aNil))))) (tNot (tChain opLe opLe (eC (.int 1)) (eCall opLenU (aCons (eVar 0) aNil)) (eC (.int 3))))) (sRet (eC (.bl false))) bNil) (sRet (eCall opAll (aCons (eLc (iAny (eVar 0)) (.slot 2) tYesD (eCall f_is_one_of (aCons (eVar 2) (aCons (eVar 1) aNil))) [2]) aNil))))
theorem sc_is_chain : FnScope ["value", "people", "name"] ["value", "people"] (defScope s_is_chain) := ⟨rfl, rfl, rfl, by decide +kernel, rfl, by decide +kernel, by decide +kernel⟩
theorem ok_is_chain (T : Txt K mg Γ Φ Ψ) : FnF Γ P w K mg base 2 (Φ 5) f_is_chain := by
  obtain ⟨fd, hF, hb⟩ := T.F_is_chain
  refine fn_body hF sc_is_chain hb (by decide) fun cdv A outer s H E hr => ?_
  exact (b_cons (s_if (t_bool (w_or (t_not (t_truth (s_callB call_isi (rd_isi T.isi T.kt_ok) (by rfl) T.n_isinstance (by decide +kernel) (a_cons (s_var rfl) (a_cons (s_ty (by rfl) T.n_tuple (by decide +kernel) (by decide)) a_nil))))) (w_or1 (t_not (t_chain ok_le ok_le s_int (s_callIf (c := isDkL) (s_callB call_lenRd rd_lenDk (by rfl) T.n_len (by decide +kernel) (a_cons (s_var rfl) a_nil)) (s_callB call_len3 rd_len (by rfl) T.n_len (by decide +kernel) (a_cons (s_var rfl) a_nil))) s_int))))) (b_one (s_ret s_bl)) b_nil) (b_one (s_ret (s_callB (cr_all rfl) rd_all (by rfl) T.n_all (by decide +kernel) (a_cons (s_lc (own := [("name", 2)]) rfl sc_is_chain.nd (i_any (s_var rfl)) (blkOk_by (N := ["value", "people", "name"]) (sc := defScope s_is_chain) (by decide +kernel)) (by decide) (fun s H C cl fp => (pgN (i := 2) sc_is_chain.nd rfl)) (fun s H C cl fp => ts_nil) (fun s H C cl fp => (s_call (ok_is_one_of T) (hr.mono (by decide)) pz0 (by rfl) T.m_is_one_of T.kp_is_one_of (a_cons (s_var rfl) (a_cons (s_var rfl) a_nil))))) a_nil)))))

def f_Claim_init : Fd := runBS 3 2 (bCons (sIf (tNot (eTru (eCall f_is_number (aCons (eVar 1) (aCons (eC (.int 1)) (aCons (eC (.int 8)) aNil)))))) sNever bNil) (bCons (sIf (tOr (tNot (eTru (eCall f_are_numbers (aCons (eVar 2) (aCons (eC (.int 0)) (aCons (eBin opSub (eVar 1) (eC (.int 1))) aNil)))))) (tBin opNe (eLenSet (eVar 2)) (eCall opLenU (aCons (eVar 2) aNil)))) sNever bNil) (bCons (sFldSet 0 "_total" (eVar 1) (eVar 0)) (sFldSet 0 "_worlds" (eCall opTuple (aCons (eCall opSortedT (aCons (eVar 2) aNil)) aNil)) (eVar 0)))))
theorem sc_Claim_init : FnScope ["self", "count", "worlds"] ((["self", "count"] : List Str) ++ [("worlds" : Str)]) (defScope s_Claim_init) := ⟨rfl, rfl, rfl, by decide +kernel, rfl, by decide +kernel, by decide +kernel⟩
theorem ok_Claim_init (T : Txt K mg Γ Φ Ψ) : FnF Γ P w K mg base 3 (Φ 6) f_Claim_init := by
  obtain ⟨fd, hF, hb⟩ := T.F_Claim_init
  refine fn_bodyS (ps := ["self", "count"]) (pv := "worlds") hF sc_Claim_init hb (by decide) StX.cxUp fun cdv A outer s H E hr => ?_
  exact (b_cons (s_if (t_not (t_truth (s_call (ok_is_number T) (hr.mono (by decide)) (pz_of (takes_of rfl rfl rfl rfl)) (by rfl) T.m_is_number T.kp_is_number (a_cons (s_var rfl) (a_cons s_int (a_cons s_int a_nil)))))) (b_one s_never) b_nil) (b_cons (s_if (t_bool (w_or (t_not (t_truth (s_call (ok_are_numbers T) (hr.mono (by decide)) (pz_of (takes_of rfl rfl rfl rfl)) (by rfl) T.m_are_numbers T.kp_are_numbers (a_cons (s_var rfl) (a_cons s_int (a_cons (s_bin ok_sub (s_var rfl) s_int) a_nil)))))) (w_or1 (t_cmp (ok_ne (hu64 hr)) (s_lenSet rfl (by rfl) T.n_len (by rfl) T.n_set (s_var rfl)) (s_callIf (c := isDkL) (s_callB call_lenRd rd_lenDk (by rfl) T.n_len (by decide +kernel) (a_cons (s_var rfl) a_nil)) (s_callB call_len3 rd_len (by rfl) T.n_len (by decide +kernel) (a_cons (s_var rfl) a_nil))) (nomark _))))) (b_one s_never) b_nil) (b_cons (s_fldset T.cl_Claim T.a_Claim_total (s_var rfl) (s_var rfl)) (b_one (s_fldset T.cl_Claim T.a_Claim_worlds (s_var rfl) (s_callTy call_tuple_of rd_tuple (by rfl) T.n_tuple (by decide +kernel) (a_cons (s_callB cr_sortedIT rd_sortedT (by rfl) T.n_sorted (by decide +kernel) (a_cons (s_var rfl) a_nil)) a_nil)))))))

def f_Claim_neg : Fd := runB 3 1 (bCons (sAsg (eLc (iRange1 (aCons (eUn (opFld 0 "_total") (eVar 0)) aNil)) (.slot 1) (tBin opNotInA (eVar 1) (eUn (opFld 0 "_worlds") (eVar 0))) (eVar 1) [1]) (gSlot 2)) (sRet (eFz (eCall (mkC 0 f_Claim_init) (aCons (eUn (opFld 0 "_total") (eVar 0)) (aStar (eVar 2) aNil))))))
theorem sc_Claim_neg : FnScope ["self", "world", "others"] ["self"] (defScope s_Claim_neg) := ⟨rfl, rfl, rfl, by decide +kernel, rfl, by decide +kernel, by decide +kernel⟩
theorem ok_Claim_neg (T : Txt K mg Γ Φ Ψ) : FnF Γ P w K mg base 5 (Φ 12) f_Claim_neg := by
  obtain ⟨fd, hF, hb⟩ := T.F_Claim_neg
  refine fn_body hF sc_Claim_neg hb (by decide) fun cdv A outer s H E hr => ?_
  exact (b_cons (s_setLc (own := [("world", 1)]) rfl sc_Claim_neg.nd rfl rfl (i_range1 (by rfl) T.n_range (a_cons (s_fld T.cl_Claim T.a_Claim_total (s_var rfl)) a_nil)) (blkOk_by (N := ["self", "world", "others"]) (sc := defScope s_Claim_neg) (by decide +kernel)) (by decide) (fun s H C cl fp => (pgN (i := 1) sc_Claim_neg.nd rfl)) (fun s H C cl fp => (ts_one (t_notInA (hu_of hr) (s_var rfl) (s_fld T.cl_Claim T.a_Claim_worlds (s_var rfl))))) (fun s H C cl fp => (s_var rfl))) (b_one (s_ret (s_fz (s_makeS T.mk_Claim (ok_Claim_init T) (hr.mono (by decide)) (pz_of (takes_of rfl rfl rfl rfl)) (by rfl) T.c_Claim (a_cons (s_fld T.cl_Claim T.a_Claim_total (s_var rfl)) (a_star (s_var rfl) a_nil)))))))

def f_Claim_sure : Fd := runB 2 2 (sRet (eUn (opOwn1 0 f_Claim_neg) (eFz (eMkV 0 f_Claim_init (eVar 0) (aCons (eVar 1) aNil)))))
theorem sc_Claim_sure : FnScope ["cls", "count"] ["cls", "count"] (defScope s_Claim_sure) := ⟨rfl, rfl, rfl, by decide +kernel, rfl, by decide +kernel, by decide +kernel⟩
theorem ok_Claim_sure (T : Txt K mg Γ Φ Ψ) : FnF Γ P w K mg base 6 (Φ 7) f_Claim_sure := by
  obtain ⟨fd, hF, hb⟩ := T.F_Claim_sure
  refine fn_body hF sc_Claim_sure hb (by decide) fun cdv A outer s H E hr => ?_
  exact (b_one (s_ret (s_un (ok_ownNeg T.o_Claim_neg.1 T.o_Claim_neg.2 (ok_Claim_neg T) (hr.mono (by decide)) (pz_of (takes_of rfl rfl rfl rfl))) (s_fz (s_makeV T.mk_Claim (ok_Claim_init T) (hr.mono (by decide)) (pz_of (takes_of rfl rfl rfl rfl)) (s_var rfl) (a_cons (s_var rfl) a_nil))))))

def f_Claim_total : Fd := runB 1 1 (sRet (eUn (opFld 0 "_total") (eVar 0)))
theorem sc_Claim_total : FnScope ["self"] ["self"] (defScope s_Claim_total) := ⟨rfl, rfl, rfl, by decide +kernel, rfl, by decide +kernel, by decide +kernel⟩
theorem ok_Claim_total (T : Txt K mg Γ Φ Ψ) : FnF Γ P w K mg base 1 (Φ 8) f_Claim_total := by
  obtain ⟨fd, hF, hb⟩ := T.F_Claim_total
  refine fn_body hF sc_Claim_total hb (by decide) fun cdv A outer s H E hr => ?_
  exact (b_one (s_ret (s_fld T.cl_Claim T.a_Claim_total (s_var rfl))))

def f_Claim_worlds : Fd := runB 1 1 (sRet (eUn (opFld 0 "_worlds") (eVar 0)))
theorem sc_Claim_worlds : FnScope ["self"] ["self"] (defScope s_Claim_worlds) := ⟨rfl, rfl, rfl, by decide +kernel, rfl, by decide +kernel, by decide +kernel⟩
theorem ok_Claim_worlds (T : Txt K mg Γ Φ Ψ) : FnF Γ P w K mg base 1 (Φ 9) f_Claim_worlds := by
  obtain ⟨fd, hF, hb⟩ := T.F_Claim_worlds
  refine fn_body hF sc_Claim_worlds hb (by decide) fun cdv A outer s H E hr => ?_
  exact (b_one (s_ret (s_fld T.cl_Claim T.a_Claim_worlds (s_var rfl))))

def f_is_claim : Fd := runB 2 2 (sRet (eAnd (eCall (opIsi ownC kt) (aCons (eVar 0) (aCons (eC (.gl 0)) aNil))) (eBin opEq (eProp 0 f_Claim_total (eVar 0)) (eVar 1))))
theorem sc_is_claim : FnScope ["value", "count"] ["value", "count"] (defScope s_is_claim) := ⟨rfl, rfl, rfl, by decide +kernel, rfl, by decide +kernel, by decide +kernel⟩
theorem ok_is_claim (T : Txt K mg Γ Φ Ψ) : FnF Γ P w K mg base 3 (Φ 36) f_is_claim := by
  obtain ⟨fd, hF, hb⟩ := T.F_is_claim
  refine fn_body hF sc_is_claim hb (by decide) fun cdv A outer s H E hr => ?_
  exact (b_one (s_ret (s_and (s_callB call_isi (rd_isi T.isi T.kt_ok) (by rfl) T.n_isinstance (by decide +kernel) (a_cons (s_var rfl) (a_cons (s_glob (by rfl) T.c_Claim) a_nil))) (s_one (s_cmp (ok_eq (hu64 hr)) (s_prop T.cl_Claim T.p_Claim_total (ok_Claim_total T) (hr.mono (by decide)) (s_var rfl)) (s_var rfl) (nomark _))))))

def f_check_partner : Fd := runB 2 2 (sIf (tNot (eTru (eCall f_is_claim (aCons (eVar 0) (aCons (eVar 1) aNil))))) sNever bNil)
theorem sc_check_partner : FnScope ["other", "total"] ["other", "total"] (defScope s_check_partner) := ⟨rfl, rfl, rfl, by decide +kernel, rfl, by decide +kernel, by decide +kernel⟩
theorem ok_check_partner (T : Txt K mg Γ Φ Ψ) : FnF Γ P w K mg base 4 (Φ 34) f_check_partner := by
  obtain ⟨fd, hF, hb⟩ := T.F_check_partner
  refine fn_body hF sc_check_partner hb (by decide) fun cdv A outer s H E hr => ?_
  exact (b_one (s_if (t_not (t_truth (s_call (ok_is_claim T) (hr.mono (by decide)) (pz_of (takes_of rfl rfl rfl rfl)) (by rfl) T.m_is_claim T.kp_is_claim (a_cons (s_var rfl) (a_cons (s_var rfl) a_nil))))) (b_one s_never) b_nil))

def f_Claim_and : Fd := runB 4 2 (bCons (sExpr (eCall f_check_partner (aCons (eVar 1) (aCons (eUn (opFld 0 "_total") (eVar 0)) aNil)))) (bCons (sAsg (eLc (iAny (eUn (opFld 0 "_worlds") (eVar 0))) (.slot 2) (tBin opInA (eVar 2) (eUn (opFld 0 "_worlds") (eVar 1))) (eVar 2) [2]) (gSlot 3)) (sRet (eFz (eCall (mkC 0 f_Claim_init) (aCons (eUn (opFld 0 "_total") (eVar 0)) (aStar (eVar 3) aNil)))))))
theorem sc_Claim_and : FnScope ["self", "other", "world", "both"] ["self", "other"] (defScope s_Claim_and) := ⟨rfl, rfl, rfl, by decide +kernel, rfl, by decide +kernel, by decide +kernel⟩
theorem ok_Claim_and (T : Txt K mg Γ Φ Ψ) : FnF Γ P w K mg base 5 (Φ 10) f_Claim_and := by
  obtain ⟨fd, hF, hb⟩ := T.F_Claim_and
  refine fn_body hF sc_Claim_and hb (by decide) fun cdv A outer s H E hr => ?_
  exact (b_cons (s_expr (s_call (ok_check_partner T) (hr.mono (by decide)) (pz_of (takes_of rfl rfl rfl rfl)) (by rfl) T.m_check_partner T.kp_check_partner (a_cons (s_var rfl) (a_cons (s_fld T.cl_Claim T.a_Claim_total (s_var rfl)) a_nil)))) (b_cons (s_setLc (own := [("world", 2)]) rfl sc_Claim_and.nd rfl rfl (i_any (s_fld T.cl_Claim T.a_Claim_worlds (s_var rfl))) (blkOk_by (N := ["self", "other", "world", "both"]) (sc := defScope s_Claim_and) (by decide +kernel)) (by decide) (fun s H C cl fp => (pgN (i := 2) sc_Claim_and.nd rfl)) (fun s H C cl fp => (ts_one (t_inA (hu_of hr) (s_var rfl) (s_fld T.cl_Claim T.a_Claim_worlds (s_var rfl))))) (fun s H C cl fp => (s_var rfl))) (b_one (s_ret (s_fz (s_makeS T.mk_Claim (ok_Claim_init T) (hr.mono (by decide)) (pz_of (takes_of rfl rfl rfl rfl)) (by rfl) T.c_Claim (a_cons (s_fld T.cl_Claim T.a_Claim_total (s_var rfl)) (a_star (s_var rfl) a_nil))))))))

def f_Claim_or : Fd := runB 4 2 (bCons (sExpr (eCall f_check_partner (aCons (eVar 1) (aCons (eUn (opFld 0 "_total") (eVar 0)) aNil)))) (bCons (sAsg (eLc (iRange1 (aCons (eUn (opFld 0 "_total") (eVar 0)) aNil)) (.slot 2) (tOr (tBin opInA (eVar 2) (eUn (opFld 0 "_worlds") (eVar 0))) (tBin opInA (eVar 2) (eUn (opFld 0 "_worlds") (eVar 1)))) (eVar 2) [2]) (gSlot 3)) (sRet (eFz (eCall (mkC 0 f_Claim_init) (aCons (eUn (opFld 0 "_total") (eVar 0)) (aStar (eVar 3) aNil)))))))
theorem sc_Claim_or : FnScope ["self", "other", "world", "either"] ["self", "other"] (defScope s_Claim_or) := ⟨rfl, rfl, rfl, by decide +kernel, rfl, by decide +kernel, by decide +kernel⟩
theorem ok_Claim_or (T : Txt K mg Γ Φ Ψ) : FnF Γ P w K mg base 5 (Φ 11) f_Claim_or := by
  obtain ⟨fd, hF, hb⟩ := T.F_Claim_or
  refine fn_body hF sc_Claim_or hb (by decide) fun cdv A outer s H E hr => ?_
  exact (b_cons (s_expr (s_call (ok_check_partner T) (hr.mono (by decide)) (pz_of (takes_of rfl rfl rfl rfl)) (by rfl) T.m_check_partner T.kp_check_partner (a_cons (s_var rfl) (a_cons (s_fld T.cl_Claim T.a_Claim_total (s_var rfl)) a_nil)))) (b_cons (s_setLc (own := [("world", 2)]) rfl sc_Claim_or.nd rfl rfl (i_range1 (by rfl) T.n_range (a_cons (s_fld T.cl_Claim T.a_Claim_total (s_var rfl)) a_nil)) (blkOk_by (N := ["self", "other", "world", "either"]) (sc := defScope s_Claim_or) (by decide +kernel)) (by decide) (fun s H C cl fp => (pgN (i := 2) sc_Claim_or.nd rfl)) (fun s H C cl fp => (ts_one (t_bool (w_or (t_inA (hu_of hr) (s_var rfl) (s_fld T.cl_Claim T.a_Claim_worlds (s_var rfl))) (w_or1 (t_inA (hu_of hr) (s_var rfl) (s_fld T.cl_Claim T.a_Claim_worlds (s_var rfl)))))))) (fun s H C cl fp => (s_var rfl))) (b_one (s_ret (s_fz (s_makeS T.mk_Claim (ok_Claim_init T) (hr.mono (by decide)) (pz_of (takes_of rfl rfl rfl rfl)) (by rfl) T.c_Claim (a_cons (s_fld T.cl_Claim T.a_Claim_total (s_var rfl)) (a_star (s_var rfl) a_nil))))))))

def f_Claim_contains : Fd := runB 2 2 (bCons (sIf (tNot (eTru (eCall f_is_number (aCons (eVar 1) (aCons (eC (.int 0)) (aCons (eBin opSub (eUn (opFld 0 "_total") (eVar 0)) (eC (.int 1))) aNil)))))) sNever bNil) (sRet (eBin opInA (eVar 1) (eUn (opFld 0 "_worlds") (eVar 0)))))
theorem sc_Claim_contains : FnScope ["self", "x"] ["self", "x"] (defScope s_Claim_contains) := ⟨rfl, rfl, rfl, by decide +kernel, rfl, by decide +kernel, by decide +kernel⟩
theorem ok_Claim_contains (T : Txt K mg Γ Φ Ψ) : FnF Γ P w K mg base 2 (Φ 13) f_Claim_contains := by
  obtain ⟨fd, hF, hb⟩ := T.F_Claim_contains
  refine fn_body hF sc_Claim_contains hb (by decide) fun cdv A outer s H E hr => ?_
  exact (b_cons (s_if (t_not (t_truth (s_call (ok_is_number T) (hr.mono (by decide)) (pz_of (takes_of rfl rfl rfl rfl)) (by rfl) T.m_is_number T.kp_is_number (a_cons (s_var rfl) (a_cons s_int (a_cons (s_bin ok_sub (s_fld T.cl_Claim T.a_Claim_total (s_var rfl)) s_int) a_nil)))))) (b_one s_never) b_nil) (b_one (s_ret (s_inA (hu_of hr) (s_var rfl) (s_fld T.cl_Claim T.a_Claim_worlds (s_var rfl))))))

def f_Claim_len : Fd := runB 1 1 (sRet (eCall opLenU (aCons (eUn (opFld 0 "_worlds") (eVar 0)) aNil)))
theorem sc_Claim_len : FnScope ["self"] ["self"] (defScope s_Claim_len) := ⟨rfl, rfl, rfl, by decide +kernel, rfl, by decide +kernel, by decide +kernel⟩
theorem ok_Claim_len (T : Txt K mg Γ Φ Ψ) : FnF Γ P w K mg base 1 (Φ 14) f_Claim_len := by
  obtain ⟨fd, hF, hb⟩ := T.F_Claim_len
  refine fn_body hF sc_Claim_len hb (by decide) fun cdv A outer s H E hr => ?_
  exact (b_one (s_ret (s_callIf (c := isDkL) (s_callB call_lenRd rd_lenDk (by rfl) T.n_len (by decide +kernel) (a_cons (s_fld T.cl_Claim T.a_Claim_worlds (s_var rfl)) a_nil)) (s_callB call_len3 rd_len (by rfl) T.n_len (by decide +kernel) (a_cons (s_fld T.cl_Claim T.a_Claim_worlds (s_var rfl)) a_nil)))))

def f_Claim_eq : Fd := runB 2 2 (sRet (eAnd (eCall (opIsi ownC kt) (aCons (eVar 1) (aCons (eC (.gl 0)) aNil))) (eAnd (eBin opEq (eUn (opFld 0 "_total") (eVar 0)) (eUn (opFld 0 "_total") (eVar 1))) (eBin opEq (eUn (opFld 0 "_worlds") (eVar 0)) (eUn (opFld 0 "_worlds") (eVar 1))))))
theorem sc_Claim_eq : FnScope ["self", "other"] ["self", "other"] (defScope s_Claim_eq) := ⟨rfl, rfl, rfl, by decide +kernel, rfl, by decide +kernel, by decide +kernel⟩
theorem ok_Claim_eq (T : Txt K mg Γ Φ Ψ) : FnF Γ P w K mg base 1 (Φ 15) f_Claim_eq := by
  obtain ⟨fd, hF, hb⟩ := T.F_Claim_eq
  refine fn_body hF sc_Claim_eq hb (by decide) fun cdv A outer s H E hr => ?_
  exact (b_one (s_ret (s_and (s_callB call_isi (rd_isi T.isi T.kt_ok) (by rfl) T.n_isinstance (by decide +kernel) (a_cons (s_var rfl) (a_cons (s_glob (by rfl) T.c_Claim) a_nil))) (s_and (s_cmp (ok_eq (hu64 hr)) (s_fld T.cl_Claim T.a_Claim_total (s_var rfl)) (s_fld T.cl_Claim T.a_Claim_total (s_var rfl)) (nomark _)) (s_one (s_cmp (ok_eq (hu64 hr)) (s_fld T.cl_Claim T.a_Claim_worlds (s_var rfl)) (s_fld T.cl_Claim T.a_Claim_worlds (s_var rfl)) (nomark _)))))))
theorem qt_Claim_eq : QtD f_Claim_eq := (qd_run (qs_ret (qt_and (qt_call qd_isi (qa_cons qt_var (qa_cons qt_c qa_nil))) (qt_and (qt_bin q2_eq (qt_un q1_fld qt_var) (qt_un q1_fld qt_var)) (qt_bin q2_eq (qt_un q1_fld qt_var) (qt_un q1_fld qt_var))))))

def f_is_goal : Fd := runB 4 2 (bCons (sIf (tOr (tNot (eTru (eCall (opIsi ownC kt) (aCons (eVar 0) (aCons (eC (.ty "tuple")) aNil))))) (tBin opNe (eCall opLenU (aCons (eVar 0) aNil)) (eC (.int 2)))) (sRet (eC (.bl false))) bNil) (bCons (sAsg (eVar 0) (gTup [(gSlot 2), (gSlot 3)])) (sRet (eAnd (eCall f_is_chain (aCons (eVar 2) (aCons (eVar 1) aNil))) (eCall (opIsi ownC kt) (aCons (eVar 3) (aCons (eC (.ty "bool")) aNil)))))))
theorem sc_is_goal : FnScope ["value", "people", "chain", "wanted"] ["value", "people"] (defScope s_is_goal) := ⟨rfl, rfl, rfl, by decide +kernel, rfl, by decide +kernel, by decide +kernel⟩
theorem ok_is_goal (T : Txt K mg Γ Φ Ψ) : FnF Γ P w K mg base 3 (Φ 43) f_is_goal := by
  obtain ⟨fd, hF, hb⟩ := T.F_is_goal
  refine fn_body hF sc_is_goal hb (by decide) fun cdv A outer s H E hr => ?_
  exact (b_cons (s_if (t_bool (w_or (t_not (t_truth (s_callB call_isi (rd_isi T.isi T.kt_ok) (by rfl) T.n_isinstance (by decide +kernel) (a_cons (s_var rfl) (a_cons (s_ty (by rfl) T.n_tuple (by decide +kernel) (by decide)) a_nil))))) (w_or1 (t_cmp (ok_ne (hu64 hr)) (s_callIf (c := isDkL) (s_callB call_lenRd rd_lenDk (by rfl) T.n_len (by decide +kernel) (a_cons (s_var rfl) a_nil)) (s_callB call_len3 rd_len (by rfl) T.n_len (by decide +kernel) (a_cons (s_var rfl) a_nil))) s_int (nomark _))))) (b_one (s_ret s_bl)) b_nil) (b_cons (s_asg (s_var rfl) (g_tup rfl (gs_cons (g_slot sc_is_goal.nd rfl) (gs_cons (g_slot sc_is_goal.nd rfl) gs_nil)))) (b_one (s_ret (s_and (s_call (ok_is_chain T) (hr.mono (by decide)) (pz_of (takes_of rfl rfl rfl rfl)) (by rfl) T.m_is_chain T.kp_is_chain (a_cons (s_var rfl) (a_cons (s_var rfl) a_nil))) (s_one (s_callB call_isi (rd_isi T.isi T.kt_ok) (by rfl) T.n_isinstance (by decide +kernel) (a_cons (s_var rfl) (a_cons (s_ty (by rfl) T.n_bool (by decide +kernel) (by decide)) a_nil)))))))))

def f_are_goals : Fd := runB 3 2 (bCons (sIf (tOr (tNot (eTru (eCall (opIsiT ownC ka) (aCons (eVar 0) (aCons (eTup (aCons (eC (.ty "list")) (aCons (eC (.ty "tuple")) aNil))) aNil))))) (tNot (tChain opLe opLe (eC (.int 1)) (eCall opLenU (aCons (eVar 0) aNil)) (eC (.int 6))))) (sRet (eC (.bl false))) bNil) (sRet (eCall opAll (aCons (eLc (iAny (eVar 0)) (.slot 2) tYesD (eCall f_is_goal (aCons (eVar 2) (aCons (eVar 1) aNil))) [2]) aNil))))
theorem sc_are_goals : FnScope ["value", "people", "goal"] ["value", "people"] (defScope s_are_goals) := ⟨rfl, rfl, rfl, by decide +kernel, rfl, by decide +kernel, by decide +kernel⟩
theorem ok_are_goals (T : Txt K mg Γ Φ Ψ) : FnF Γ P w K mg base 4 (Φ 42) f_are_goals := by
  obtain ⟨fd, hF, hb⟩ := T.F_are_goals
  refine fn_body hF sc_are_goals hb (by decide) fun cdv A outer s H E hr => ?_
  exact (b_cons (s_if (t_bool (w_or (t_not (t_truth (s_callB call_isiT (rd_isiT T.isi T.ka_ok) (by rfl) T.n_isinstance (by decide +kernel) (a_cons (s_var rfl) (a_cons (s_tup (a_cons (s_ty (by rfl) T.n_list (by decide +kernel) (by decide)) (a_cons (s_ty (by rfl) T.n_tuple (by decide +kernel) (by decide)) a_nil))) a_nil))))) (w_or1 (t_not (t_chain ok_le ok_le s_int (s_callIf (c := isDkL) (s_callB call_lenRd rd_lenDk (by rfl) T.n_len (by decide +kernel) (a_cons (s_var rfl) a_nil)) (s_callB call_len3 rd_len (by rfl) T.n_len (by decide +kernel) (a_cons (s_var rfl) a_nil))) s_int))))) (b_one (s_ret s_bl)) b_nil) (b_one (s_ret (s_callB (cr_all rfl) rd_all (by rfl) T.n_all (by decide +kernel) (a_cons (s_lc (own := [("goal", 2)]) rfl sc_are_goals.nd (i_any (s_var rfl)) (blkOk_by (N := ["value", "people", "goal"]) (sc := defScope s_are_goals) (by decide +kernel)) (by decide) (fun s H C cl fp => (pgN (i := 2) sc_are_goals.nd rfl)) (fun s H C cl fp => ts_nil) (fun s H C cl fp => (s_call (ok_is_goal T) (hr.mono (by decide)) pz0 (by rfl) T.m_is_goal T.kp_is_goal (a_cons (s_var rfl) (a_cons (s_var rfl) a_nil))))) a_nil)))))

def f_is_sentence : Fd := runB 5 3 (bCons (sIf (tOr (tNot (eTru (eCall (opIsi ownC kt) (aCons (eVar 0) (aCons (eC (.ty "tuple")) aNil))))) (tBin opNe (eCall opLenU (aCons (eVar 0) aNil)) (eC (.int 2)))) (sRet (eC (.bl false))) bNil) (bCons (sAsg (eVar 0) (gTup [(gSlot 3), (gSlot 4)])) (sRet (eAnd (eCall f_is_claim (aCons (eVar 3) (aCons (eVar 1) aNil))) (eAnd (eBin (opOwnIn false 0 f_Claim_contains) (eVar 2) (eVar 3)) (eCall f_is_number (aCons (eVar 4) (aCons (eC (.int 1)) (aCons (eC (.int 9)) aNil)))))))))
theorem sc_is_sentence : FnScope ["value", "count", "real", "claim", "cost"] ["value", "count", "real"] (defScope s_is_sentence) := ⟨rfl, rfl, rfl, by decide +kernel, rfl, by decide +kernel, by decide +kernel⟩
theorem ok_is_sentence (T : Txt K mg Γ Φ Ψ) : FnF Γ P w K mg base 4 (Φ 41) f_is_sentence := by
  obtain ⟨fd, hF, hb⟩ := T.F_is_sentence
  refine fn_body hF sc_is_sentence hb (by decide) fun cdv A outer s H E hr => ?_
  exact (b_cons (s_if (t_bool (w_or (t_not (t_truth (s_callB call_isi (rd_isi T.isi T.kt_ok) (by rfl) T.n_isinstance (by decide +kernel) (a_cons (s_var rfl) (a_cons (s_ty (by rfl) T.n_tuple (by decide +kernel) (by decide)) a_nil))))) (w_or1 (t_cmp (ok_ne (hu64 hr)) (s_callIf (c := isDkL) (s_callB call_lenRd rd_lenDk (by rfl) T.n_len (by decide +kernel) (a_cons (s_var rfl) a_nil)) (s_callB call_len3 rd_len (by rfl) T.n_len (by decide +kernel) (a_cons (s_var rfl) a_nil))) s_int (nomark _))))) (b_one (s_ret s_bl)) b_nil) (b_cons (s_asg (s_var rfl) (g_tup rfl (gs_cons (g_slot sc_is_sentence.nd rfl) (gs_cons (g_slot sc_is_sentence.nd rfl) gs_nil)))) (b_one (s_ret (s_and (s_call (ok_is_claim T) (hr.mono (by decide)) (pz_of (takes_of rfl rfl rfl rfl)) (by rfl) T.m_is_claim T.kp_is_claim (a_cons (s_var rfl) (a_cons (s_var rfl) a_nil))) (s_and (s_cmp (ok_ownIn T.o_Claim_contains.1 T.o_Claim_contains.2 (ok_Claim_contains T) (hr.mono (by decide)) (pz_of (takes_of rfl rfl rfl rfl))) (s_var rfl) (s_var rfl) (by rfl)) (s_one (s_call (ok_is_number T) (hr.mono (by decide)) (pz_of (takes_of rfl rfl rfl rfl)) (by rfl) T.m_is_number T.kp_is_number (a_cons (s_var rfl) (a_cons s_int (a_cons s_int a_nil)))))))))))

def f_are_sentences : Fd := runB 4 3 (bCons (sIf (tOr (tNot (eTru (eCall (opIsi ownC kt) (aCons (eVar 0) (aCons (eC (.ty "dict")) aNil))))) (tBin opGt (eCall opLenU (aCons (eVar 0) aNil)) (eC (.int 6)))) (sRet (eC (.bl false))) bNil) (sRet (eCall opAll (aCons (eLc (iAny (eVar 0)) (.slot 3) tYesD (eAnd (eCall f_is_name (aCons (eVar 3) aNil)) (eCall f_is_sentence (aCons (eBin opIxA (eVar 0) (eVar 3)) (aCons (eVar 1) (aCons (eVar 2) aNil))))) [3]) aNil))))
theorem sc_are_sentences : FnScope ["value", "count", "real", "name"] ["value", "count", "real"] (defScope s_are_sentences) := ⟨rfl, rfl, rfl, by decide +kernel, rfl, by decide +kernel, by decide +kernel⟩
theorem ok_are_sentences (T : Txt K mg Γ Φ Ψ) : FnF Γ P w K mg base 5 (Φ 40) f_are_sentences := by
  obtain ⟨fd, hF, hb⟩ := T.F_are_sentences
  refine fn_body hF sc_are_sentences hb (by decide) fun cdv A outer s H E hr => ?_
  exact (b_cons (s_if (t_bool (w_or (t_not (t_truth (s_callB call_isi (rd_isi T.isi T.kt_ok) (by rfl) T.n_isinstance (by decide +kernel) (a_cons (s_var rfl) (a_cons (s_ty (by rfl) T.n_dict (by decide +kernel) (by decide)) a_nil))))) (w_or1 (t_cmp ok_gt (s_callIf (c := isDkL) (s_callB call_lenRd rd_lenDk (by rfl) T.n_len (by decide +kernel) (a_cons (s_var rfl) a_nil)) (s_callB call_len3 rd_len (by rfl) T.n_len (by decide +kernel) (a_cons (s_var rfl) a_nil))) s_int (nomark _))))) (b_one (s_ret s_bl)) b_nil) (b_one (s_ret (s_callB (cr_all rfl) rd_all (by rfl) T.n_all (by decide +kernel) (a_cons (s_lc (own := [("name", 3)]) rfl sc_are_sentences.nd (i_any (s_var rfl)) (blkOk_by (N := ["value", "count", "real", "name"]) (sc := defScope s_are_sentences) (by decide +kernel)) (by decide) (fun s H C cl fp => (pgN (i := 3) sc_are_sentences.nd rfl)) (fun s H C cl fp => ts_nil) (fun s H C cl fp => (s_and (s_call (ok_is_name T) (hr.mono (by decide)) pz0 (by rfl) T.m_is_name T.kp_is_name (a_cons (s_var rfl) a_nil)) (s_one (s_call (ok_is_sentence T) (hr.mono (by decide)) pz0 (by rfl) T.m_is_sentence T.kp_is_sentence (a_cons (s_ixA (hu_of hr) (s_var rfl) (s_var rfl)) (a_cons (s_var rfl) (a_cons (s_var rfl) a_nil)))))))) a_nil)))))

def f_are_sights : Fd := runB 2 2 (sRet (eAnd (eCall f_are_numbers (aCons (eVar 0) (aCons (eC (.int 0)) (aCons (eC (.int 3)) aNil)))) (eBin opEq (eCall opLenU (aCons (eVar 0) aNil)) (eVar 1))))
theorem sc_are_sights : FnScope ["value", "count"] ["value", "count"] (defScope s_are_sights) := ⟨rfl, rfl, rfl, by decide +kernel, rfl, by decide +kernel, by decide +kernel⟩
theorem ok_are_sights (T : Txt K mg Γ Φ Ψ) : FnF Γ P w K mg base 3 (Φ 39) f_are_sights := by
  obtain ⟨fd, hF, hb⟩ := T.F_are_sights
  refine fn_body hF sc_are_sights hb (by decide) fun cdv A outer s H E hr => ?_
  exact (b_one (s_ret (s_and (s_call (ok_are_numbers T) (hr.mono (by decide)) (pz_of (takes_of rfl rfl rfl rfl)) (by rfl) T.m_are_numbers T.kp_are_numbers (a_cons (s_var rfl) (a_cons s_int (a_cons s_int a_nil)))) (s_one (s_cmp (ok_eq (hu64 hr)) (s_callIf (c := isDkL) (s_callB call_lenRd rd_lenDk (by rfl) T.n_len (by decide +kernel) (a_cons (s_var rfl) a_nil)) (s_callB call_len3 rd_len (by rfl) T.n_len (by decide +kernel) (a_cons (s_var rfl) a_nil))) (s_var rfl) (nomark _))))))

def f_are_people : Fd := runB 3 2 (bCons (sIf (tOr (tNot (eTru (eCall (opIsi ownC kt) (aCons (eVar 0) (aCons (eC (.ty "dict")) aNil))))) (tNot (tChain opLe opLe (eC (.int 1)) (eCall opLenU (aCons (eVar 0) aNil)) (eC (.int 4))))) (sRet (eC (.bl false))) bNil) (sRet (eCall opAll (aCons (eLc (iAny (eVar 0)) (.slot 2) tYesD (eAnd (eCall f_is_name (aCons (eVar 2) aNil)) (eCall f_are_sights (aCons (eBin opIxA (eVar 0) (eVar 2)) (aCons (eVar 1) aNil)))) [2]) aNil))))
theorem sc_are_people : FnScope ["value", "count", "name"] ["value", "count"] (defScope s_are_people) := ⟨rfl, rfl, rfl, by decide +kernel, rfl, by decide +kernel, by decide +kernel⟩
theorem ok_are_people (T : Txt K mg Γ Φ Ψ) : FnF Γ P w K mg base 4 (Φ 38) f_are_people := by
  obtain ⟨fd, hF, hb⟩ := T.F_are_people
  refine fn_body hF sc_are_people hb (by decide) fun cdv A outer s H E hr => ?_
  exact (b_cons (s_if (t_bool (w_or (t_not (t_truth (s_callB call_isi (rd_isi T.isi T.kt_ok) (by rfl) T.n_isinstance (by decide +kernel) (a_cons (s_var rfl) (a_cons (s_ty (by rfl) T.n_dict (by decide +kernel) (by decide)) a_nil))))) (w_or1 (t_not (t_chain ok_le ok_le s_int (s_callIf (c := isDkL) (s_callB call_lenRd rd_lenDk (by rfl) T.n_len (by decide +kernel) (a_cons (s_var rfl) a_nil)) (s_callB call_len3 rd_len (by rfl) T.n_len (by decide +kernel) (a_cons (s_var rfl) a_nil))) s_int))))) (b_one (s_ret s_bl)) b_nil) (b_one (s_ret (s_callB (cr_all rfl) rd_all (by rfl) T.n_all (by decide +kernel) (a_cons (s_lc (own := [("name", 2)]) rfl sc_are_people.nd (i_any (s_var rfl)) (blkOk_by (N := ["value", "count", "name"]) (sc := defScope s_are_people) (by decide +kernel)) (by decide) (fun s H C cl fp => (pgN (i := 2) sc_are_people.nd rfl)) (fun s H C cl fp => ts_nil) (fun s H C cl fp => (s_and (s_call (ok_is_name T) (hr.mono (by decide)) pz0 (by rfl) T.m_is_name T.kp_is_name (a_cons (s_var rfl) a_nil)) (s_one (s_call (ok_are_sights T) (hr.mono (by decide)) pz0 (by rfl) T.m_are_sights T.kp_are_sights (a_cons (s_ixA (hu_of hr) (s_var rfl) (s_var rfl)) (a_cons (s_var rfl) a_nil))))))) a_nil)))))

def f_are_world_and_count : Fd := runB 2 2 (sRet (eAnd (eCall f_is_number (aCons (eVar 1) (aCons (eC (.int 2)) (aCons (eC (.int 8)) aNil)))) (eCall f_is_number (aCons (eVar 0) (aCons (eC (.int 0)) (aCons (eBin opSub (eVar 1) (eC (.int 1))) aNil))))))
theorem sc_are_world_and_count : FnScope ["real", "count"] ["real", "count"] (defScope s_are_world_and_count) := ⟨rfl, rfl, rfl, by decide +kernel, rfl, by decide +kernel, by decide +kernel⟩
theorem ok_are_world_and_count (T : Txt K mg Γ Φ Ψ) : FnF Γ P w K mg base 2 (Φ 37) f_are_world_and_count := by
  obtain ⟨fd, hF, hb⟩ := T.F_are_world_and_count
  refine fn_body hF sc_are_world_and_count hb (by decide) fun cdv A outer s H E hr => ?_
  exact (b_one (s_ret (s_and (s_call (ok_is_number T) (hr.mono (by decide)) (pz_of (takes_of rfl rfl rfl rfl)) (by rfl) T.m_is_number T.kp_is_number (a_cons (s_var rfl) (a_cons s_int (a_cons s_int a_nil)))) (s_one (s_call (ok_is_number T) (hr.mono (by decide)) (pz_of (takes_of rfl rfl rfl rfl)) (by rfl) T.m_is_number T.kp_is_number (a_cons (s_var rfl) (a_cons s_int (a_cons (s_bin ok_sub (s_var rfl) s_int) a_nil))))))))

def f_Scene_init : Fd := runB 8 7 (bCons (sIf (tNot (eTru (eCall f_are_world_and_count (aCons (eVar 2) (aCons (eVar 1) aNil))))) sNever bNil) (bCons (sIf (tNot (eTru (eCall f_are_people (aCons (eVar 3) (aCons (eVar 1) aNil))))) sNever bNil) (bCons (sIf (tNot (eTru (eCall f_is_claim (aCons (eVar 4) (aCons (eVar 1) aNil))))) sNever bNil) (bCons (sIf (tNot (eTru (eCall f_are_sentences (aCons (eVar 5) (aCons (eVar 1) (aCons (eVar 2) aNil)))))) sNever bNil) (bCons (sIf (tNot (eTru (eCall f_are_goals (aCons (eVar 6) (aCons (eVar 3) aNil))))) sNever bNil) (bCons (sFldSet 1 "_count" (eVar 1) (eVar 0)) (bCons (sFldSet 1 "_real" (eVar 2) (eVar 0)) (bCons (sFldSet 1 "_sights" (eDc (iAny (eVar 3)) (.slot 7) tYesD (eVar 7) (eBin opIxA (eVar 3) (eVar 7)) [7]) (eVar 0)) (bCons (sFldSet 1 "_fact" (eVar 4) (eVar 0)) (bCons (sFldSet 1 "_sentences" (eDc (iAny (eVar 5)) (.slot 7) tYesD (eVar 7) (eBin opIxA (eVar 5) (eVar 7)) [7]) (eVar 0)) (sFldSet 1 "_goals" (eCall opTuple (aCons (eVar 6) aNil)) (eVar 0))))))))))))
theorem sc_Scene_init : FnScope ["self", "count", "real", "people", "fact", "sentences", "goals", "name"] ["self", "count", "real", "people", "fact", "sentences", "goals"] (defScope s_Scene_init) := ⟨rfl, rfl, rfl, by decide +kernel, rfl, by decide +kernel, by decide +kernel⟩
theorem ok_Scene_init (T : Txt K mg Γ Φ Ψ) : FnF Γ P w K mg base 6 (Φ 16) f_Scene_init := by
  obtain ⟨fd, hF, hb⟩ := T.F_Scene_init
  refine fn_body hF sc_Scene_init hb (by decide) fun cdv A outer s H E hr => ?_
  exact (b_cons (s_if (t_not (t_truth (s_call (ok_are_world_and_count T) (hr.mono (by decide)) (pz_of (takes_of rfl rfl rfl rfl)) (by rfl) T.m_are_world_and_count T.kp_are_world_and_count (a_cons (s_var rfl) (a_cons (s_var rfl) a_nil))))) (b_one s_never) b_nil) (b_cons (s_if (t_not (t_truth (s_call (ok_are_people T) (hr.mono (by decide)) (pz_of (takes_of rfl rfl rfl rfl)) (by rfl) T.m_are_people T.kp_are_people (a_cons (s_var rfl) (a_cons (s_var rfl) a_nil))))) (b_one s_never) b_nil) (b_cons (s_if (t_not (t_truth (s_call (ok_is_claim T) (hr.mono (by decide)) (pz_of (takes_of rfl rfl rfl rfl)) (by rfl) T.m_is_claim T.kp_is_claim (a_cons (s_var rfl) (a_cons (s_var rfl) a_nil))))) (b_one s_never) b_nil) (b_cons (s_if (t_not (t_truth (s_call (ok_are_sentences T) (hr.mono (by decide)) (pz_of (takes_of rfl rfl rfl rfl)) (by rfl) T.m_are_sentences T.kp_are_sentences (a_cons (s_var rfl) (a_cons (s_var rfl) (a_cons (s_var rfl) a_nil)))))) (b_one s_never) b_nil) (b_cons (s_if (t_not (t_truth (s_call (ok_are_goals T) (hr.mono (by decide)) (pz_of (takes_of rfl rfl rfl rfl)) (by rfl) T.m_are_goals T.kp_are_goals (a_cons (s_var rfl) (a_cons (s_var rfl) a_nil))))) (b_one s_never) b_nil) (b_cons (s_fldset T.cl_Scene T.a_Scene_count (s_var rfl) (s_var rfl)) (b_cons (s_fldset T.cl_Scene T.a_Scene_real (s_var rfl) (s_var rfl)) (b_cons (s_fldset T.cl_Scene T.a_Scene_sights (s_var rfl) (s_dc (own := [("name", 7)]) rfl sc_Scene_init.nd (i_any (s_var rfl)) (blkOk_by (N := ["self", "count", "real", "people", "fact", "sentences", "goals", "name"]) (sc := defScope s_Scene_init) (by decide +kernel)) (by decide) (fun s H C cl fp => (pgN (i := 7) sc_Scene_init.nd rfl)) (fun s H C cl fp => ts_nil) (fun s H C cl fp => (s_var rfl)) (fun s H C cl fp => (s_ixA (hu_of hr) (s_var rfl) (s_var rfl))))) (b_cons (s_fldset T.cl_Scene T.a_Scene_fact (s_var rfl) (s_var rfl)) (b_cons (s_fldset T.cl_Scene T.a_Scene_sentences (s_var rfl) (s_dc (own := [("name", 7)]) rfl sc_Scene_init.nd (i_any (s_var rfl)) (blkOk_by (N := ["self", "count", "real", "people", "fact", "sentences", "goals", "name"]) (sc := defScope s_Scene_init) (by decide +kernel)) (by decide) (fun s H C cl fp => (pgN (i := 7) sc_Scene_init.nd rfl)) (fun s H C cl fp => ts_nil) (fun s H C cl fp => (s_var rfl)) (fun s H C cl fp => (s_ixA (hu_of hr) (s_var rfl) (s_var rfl))))) (b_one (s_fldset T.cl_Scene T.a_Scene_goals (s_var rfl) (s_callTy call_tuple_of rd_tuple (by rfl) T.n_tuple (by decide +kernel) (a_cons (s_var rfl) a_nil))))))))))))))

def f_Scene_actual : Fd := runB 1 1 (sRet (eUn (opFld 1 "_real") (eVar 0)))
theorem sc_Scene_actual : FnScope ["self"] ["self"] (defScope s_Scene_actual) := ⟨rfl, rfl, rfl, by decide +kernel, rfl, by decide +kernel, by decide +kernel⟩
theorem ok_Scene_actual (T : Txt K mg Γ Φ Ψ) : FnF Γ P w K mg base 1 (Φ 17) f_Scene_actual := by
  obtain ⟨fd, hF, hb⟩ := T.F_Scene_actual
  refine fn_body hF sc_Scene_actual hb (by decide) fun cdv A outer s H E hr => ?_
  exact (b_one (s_ret (s_fld T.cl_Scene T.a_Scene_real (s_var rfl))))

def f_Scene_fact : Fd := runB 1 1 (sRet (eUn (opFld 1 "_fact") (eVar 0)))
theorem sc_Scene_fact : FnScope ["self"] ["self"] (defScope s_Scene_fact) := ⟨rfl, rfl, rfl, by decide +kernel, rfl, by decide +kernel, by decide +kernel⟩
theorem ok_Scene_fact (T : Txt K mg Γ Φ Ψ) : FnF Γ P w K mg base 1 (Φ 18) f_Scene_fact := by
  obtain ⟨fd, hF, hb⟩ := T.F_Scene_fact
  refine fn_body hF sc_Scene_fact hb (by decide) fun cdv A outer s H E hr => ?_
  exact (b_one (s_ret (s_fld T.cl_Scene T.a_Scene_fact (s_var rfl))))

def f_Scene_people : Fd := runB 1 1 (sRet (eCall opListU (aCons (eUn (opFld 1 "_sights") (eVar 0)) aNil)))
theorem sc_Scene_people : FnScope ["self"] ["self"] (defScope s_Scene_people) := ⟨rfl, rfl, rfl, by decide +kernel, rfl, by decide +kernel, by decide +kernel⟩
theorem ok_Scene_people (T : Txt K mg Γ Φ Ψ) : FnF Γ P w K mg base 1 (Φ 19) f_Scene_people := by
  obtain ⟨fd, hF, hb⟩ := T.F_Scene_people
  refine fn_body hF sc_Scene_people hb (by decide) fun cdv A outer s H E hr => ?_
  exact (b_one (s_ret (s_callIf (c := isDkL) (s_callTy (call_listD rfl) rd_listD (by rfl) T.n_list (by decide +kernel) (a_cons (s_fld T.cl_Scene T.a_Scene_sights (s_var rfl)) a_nil)) (s_callTy call_list_of rd_list (by rfl) T.n_list (by decide +kernel) (a_cons (s_fld T.cl_Scene T.a_Scene_sights (s_var rfl)) a_nil)))))

def f_Scene_names : Fd := runB 1 1 (sRet (eCall opListU (aCons (eUn (opFld 1 "_sentences") (eVar 0)) aNil)))
theorem sc_Scene_names : FnScope ["self"] ["self"] (defScope s_Scene_names) := ⟨rfl, rfl, rfl, by decide +kernel, rfl, by decide +kernel, by decide +kernel⟩
theorem ok_Scene_names (T : Txt K mg Γ Φ Ψ) : FnF Γ P w K mg base 1 (Φ 20) f_Scene_names := by
  obtain ⟨fd, hF, hb⟩ := T.F_Scene_names
  refine fn_body hF sc_Scene_names hb (by decide) fun cdv A outer s H E hr => ?_
  exact (b_one (s_ret (s_callIf (c := isDkL) (s_callTy (call_listD rfl) rd_listD (by rfl) T.n_list (by decide +kernel) (a_cons (s_fld T.cl_Scene T.a_Scene_sentences (s_var rfl)) a_nil)) (s_callTy call_list_of rd_list (by rfl) T.n_list (by decide +kernel) (a_cons (s_fld T.cl_Scene T.a_Scene_sentences (s_var rfl)) a_nil)))))

def f_Scene_goals : Fd := runB 1 1 (sRet (eCall opListU (aCons (eUn (opFld 1 "_goals") (eVar 0)) aNil)))
theorem sc_Scene_goals : FnScope ["self"] ["self"] (defScope s_Scene_goals) := ⟨rfl, rfl, rfl, by decide +kernel, rfl, by decide +kernel, by decide +kernel⟩
theorem ok_Scene_goals (T : Txt K mg Γ Φ Ψ) : FnF Γ P w K mg base 1 (Φ 21) f_Scene_goals := by
  obtain ⟨fd, hF, hb⟩ := T.F_Scene_goals
  refine fn_body hF sc_Scene_goals hb (by decide) fun cdv A outer s H E hr => ?_
  exact (b_one (s_ret (s_callIf (c := isDkL) (s_callTy (call_listD rfl) rd_listD (by rfl) T.n_list (by decide +kernel) (a_cons (s_fld T.cl_Scene T.a_Scene_goals (s_var rfl)) a_nil)) (s_callTy call_list_of rd_list (by rfl) T.n_list (by decide +kernel) (a_cons (s_fld T.cl_Scene T.a_Scene_goals (s_var rfl)) a_nil)))))

def f_Scene__sentence : Fd := runB 2 2 (bCons (sIf (tNot (eTru (eCall f_is_one_of (aCons (eVar 1) (aCons (eUn (opFld 1 "_sentences") (eVar 0)) aNil))))) sNever bNil) (sRet (eBin opIxA (eUn (opFld 1 "_sentences") (eVar 0)) (eVar 1))))
theorem sc_Scene__sentence : FnScope ["self", "name"] ["self", "name"] (defScope s_Scene__sentence) := ⟨rfl, rfl, rfl, by decide +kernel, rfl, by decide +kernel, by decide +kernel⟩
theorem ok_Scene__sentence (T : Txt K mg Γ Φ Ψ) : FnF Γ P w K mg base 2 (Φ 25) f_Scene__sentence := by
  obtain ⟨fd, hF, hb⟩ := T.F_Scene__sentence
  refine fn_body hF sc_Scene__sentence hb (by decide) fun cdv A outer s H E hr => ?_
  exact (b_cons (s_if (t_not (t_truth (s_call (ok_is_one_of T) (hr.mono (by decide)) (pz_of (takes_of rfl rfl rfl rfl)) (by rfl) T.m_is_one_of T.kp_is_one_of (a_cons (s_var rfl) (a_cons (s_fld T.cl_Scene T.a_Scene_sentences (s_var rfl)) a_nil))))) (b_one s_never) b_nil) (b_one (s_ret (s_ixA (hu_of hr) (s_fld T.cl_Scene T.a_Scene_sentences (s_var rfl)) (s_var rfl)))))

def f_Scene_getitem : Fd := runB 4 2 (bCons (sAsg (eMeth 1 "_sentence" f_Scene__sentence (eVar 0) (aCons (eVar 1) aNil)) (gTup [(gSlot 2), (gSlot 3)])) (sRet (eVar 2)))
theorem sc_Scene_getitem : FnScope ["self", "at", "claim", "_"] ["self", "at"] (defScope s_Scene_getitem) := ⟨rfl, rfl, rfl, by decide +kernel, rfl, by decide +kernel, by decide +kernel⟩
theorem ok_Scene_getitem (T : Txt K mg Γ Φ Ψ) : FnF Γ P w K mg base 3 (Φ 22) f_Scene_getitem := by
  obtain ⟨fd, hF, hb⟩ := T.F_Scene_getitem
  refine fn_body hF sc_Scene_getitem hb (by decide) fun cdv A outer s H E hr => ?_
  exact (b_cons (s_asg (s_meth T.cl_Scene T.me_Scene_sentence (ok_Scene__sentence T) (hr.mono (by decide)) (pz_of (takes_of rfl rfl rfl rfl)) (s_var rfl) (a_cons (s_var rfl) a_nil)) (g_tup rfl (gs_cons (g_slot sc_Scene_getitem.nd rfl) (gs_cons (g_slot sc_Scene_getitem.nd rfl) gs_nil)))) (b_one (s_ret (s_var rfl))))

def f_Scene_iter : Fd := runB 1 1 sNever
theorem sc_Scene_iter : FnScope ["self"] ["self"] (defScope s_Scene_iter) := ⟨rfl, rfl, rfl, by decide +kernel, rfl, by decide +kernel, by decide +kernel⟩
theorem ok_Scene_iter (T : Txt K mg Γ Φ Ψ) : FnF Γ P w K mg base 1 (Φ 23) f_Scene_iter := by
  obtain ⟨fd, hF, hb⟩ := T.F_Scene_iter
  refine fn_body hF sc_Scene_iter hb (by decide) fun cdv A outer s H E hr => ?_
  exact (b_one s_never)

def f_Scene_cost : Fd := runB 4 2 (bCons (sAsg (eMeth 1 "_sentence" f_Scene__sentence (eVar 0) (aCons (eVar 1) aNil)) (gTup [(gSlot 2), (gSlot 3)])) (sRet (eVar 3)))
theorem sc_Scene_cost : FnScope ["self", "name", "_", "cost"] ["self", "name"] (defScope s_Scene_cost) := ⟨rfl, rfl, rfl, by decide +kernel, rfl, by decide +kernel, by decide +kernel⟩
theorem ok_Scene_cost (T : Txt K mg Γ Φ Ψ) : FnF Γ P w K mg base 3 (Φ 24) f_Scene_cost := by
  obtain ⟨fd, hF, hb⟩ := T.F_Scene_cost
  refine fn_body hF sc_Scene_cost hb (by decide) fun cdv A outer s H E hr => ?_
  exact (b_cons (s_asg (s_meth T.cl_Scene T.me_Scene_sentence (ok_Scene__sentence T) (hr.mono (by decide)) (pz_of (takes_of rfl rfl rfl rfl)) (s_var rfl) (a_cons (s_var rfl) a_nil)) (g_tup rfl (gs_cons (g_slot sc_Scene_cost.nd rfl) (gs_cons (g_slot sc_Scene_cost.nd rfl) gs_nil)))) (b_one (s_ret (s_var rfl))))

def f_Scene_contains : Fd := runB 2 2 (sRet (eCall f_is_one_of (aCons (eVar 1) (aCons (eUn (opFld 1 "_sentences") (eVar 0)) aNil))))
theorem sc_Scene_contains : FnScope ["self", "x"] ["self", "x"] (defScope s_Scene_contains) := ⟨rfl, rfl, rfl, by decide +kernel, rfl, by decide +kernel, by decide +kernel⟩
theorem ok_Scene_contains (T : Txt K mg Γ Φ Ψ) : FnF Γ P w K mg base 2 (Φ 26) f_Scene_contains := by
  obtain ⟨fd, hF, hb⟩ := T.F_Scene_contains
  refine fn_body hF sc_Scene_contains hb (by decide) fun cdv A outer s H E hr => ?_
  exact (b_one (s_ret (s_call (ok_is_one_of T) (hr.mono (by decide)) (pz_of (takes_of rfl rfl rfl rfl)) (by rfl) T.m_is_one_of T.kp_is_one_of (a_cons (s_var rfl) (a_cons (s_fld T.cl_Scene T.a_Scene_sentences (s_var rfl)) a_nil)))))

def f_Scene_len : Fd := runB 1 1 (sRet (eCall opLenU (aCons (eUn (opFld 1 "_sentences") (eVar 0)) aNil)))
theorem sc_Scene_len : FnScope ["self"] ["self"] (defScope s_Scene_len) := ⟨rfl, rfl, rfl, by decide +kernel, rfl, by decide +kernel, by decide +kernel⟩
theorem ok_Scene_len (T : Txt K mg Γ Φ Ψ) : FnF Γ P w K mg base 1 (Φ 27) f_Scene_len := by
  obtain ⟨fd, hF, hb⟩ := T.F_Scene_len
  refine fn_body hF sc_Scene_len hb (by decide) fun cdv A outer s H E hr => ?_
  exact (b_one (s_ret (s_callIf (c := isDkL) (s_callB call_lenRd rd_lenDk (by rfl) T.n_len (by decide +kernel) (a_cons (s_fld T.cl_Scene T.a_Scene_sentences (s_var rfl)) a_nil)) (s_callB call_len3 rd_len (by rfl) T.n_len (by decide +kernel) (a_cons (s_fld T.cl_Scene T.a_Scene_sentences (s_var rfl)) a_nil)))))

def f_Scene_in_order : Fd := runB 3 2 (sRet (eCall opTuple (aCons (eLc (iAny (eUn (opFld 1 "_sentences") (eVar 0))) (.slot 2) (tBin opInA (eVar 2) (eVar 1)) (eVar 2) [2]) aNil)))
theorem sc_Scene_in_order : FnScope ["self", "names", "name"] ["self", "names"] (defScope s_Scene_in_order) := ⟨rfl, rfl, rfl, by decide +kernel, rfl, by decide +kernel, by decide +kernel⟩
theorem ok_Scene_in_order (T : Txt K mg Γ Φ Ψ) : FnF Γ P w K mg base 1 (Φ 31) f_Scene_in_order := by
  obtain ⟨fd, hF, hb⟩ := T.F_Scene_in_order
  refine fn_body hF sc_Scene_in_order hb (by decide) fun cdv A outer s H E hr => ?_
  exact (b_one (s_ret (s_callTy call_tuple_of rd_tuple (by rfl) T.n_tuple (by decide +kernel) (a_cons (s_lc (own := [("name", 2)]) rfl sc_Scene_in_order.nd (i_any (s_fld T.cl_Scene T.a_Scene_sentences (s_var rfl))) (blkOk_by (N := ["self", "names", "name"]) (sc := defScope s_Scene_in_order) (by decide +kernel)) (by decide) (fun s H C cl fp => (pgN (i := 2) sc_Scene_in_order.nd rfl)) (fun s H C cl fp => (ts_one (t_inA (hu_of hr) (s_var rfl) (s_var rfl)))) (fun s H C cl fp => (s_var rfl))) a_nil))))

def f_Scene_check_set : Fd := runB 3 2 (bCons (sIf (tOr (tNot (eTru (eCall (opIsi ownC kt) (aCons (eVar 1) (aCons (eC (.ty "tuple")) aNil))))) (tNot (eTru (eCall opAll (aCons (eLc (iAny (eVar 1)) (.slot 2) tYesD (eBin (opOwnIn false 1 f_Scene_contains) (eVar 2) (eVar 0)) [2]) aNil))))) sNever bNil) (sIf (tBin opNe (eCall opListU (aCons (eVar 1) aNil)) (eCall opListU (aCons (eMeth 1 "in_order" f_Scene_in_order (eVar 0) (aCons (eVar 1) aNil)) aNil))) sNever bNil))
theorem sc_Scene_check_set : FnScope ["self", "said", "name"] ["self", "said"] (defScope s_Scene_check_set) := ⟨rfl, rfl, rfl, by decide +kernel, rfl, by decide +kernel, by decide +kernel⟩
theorem ok_Scene_check_set (T : Txt K mg Γ Φ Ψ) : FnF Γ P w K mg base 3 (Φ 30) f_Scene_check_set := by
  obtain ⟨fd, hF, hb⟩ := T.F_Scene_check_set
  refine fn_body hF sc_Scene_check_set hb (by decide) fun cdv A outer s H E hr => ?_
  exact (b_cons (s_if (t_bool (w_or (t_not (t_truth (s_callB call_isi (rd_isi T.isi T.kt_ok) (by rfl) T.n_isinstance (by decide +kernel) (a_cons (s_var rfl) (a_cons (s_ty (by rfl) T.n_tuple (by decide +kernel) (by decide)) a_nil))))) (w_or1 (t_not (t_truth (s_callB (cr_all rfl) rd_all (by rfl) T.n_all (by decide +kernel) (a_cons (s_lc (own := [("name", 2)]) rfl sc_Scene_check_set.nd (i_any (s_var rfl)) (blkOk_by (N := ["self", "said", "name"]) (sc := defScope s_Scene_check_set) (by decide +kernel)) (by decide) (fun s H C cl fp => (pgN (i := 2) sc_Scene_check_set.nd rfl)) (fun s H C cl fp => ts_nil) (fun s H C cl fp => (s_cmp (ok_ownIn T.o_Scene_contains.1 T.o_Scene_contains.2 (ok_Scene_contains T) (hr.mono (by decide)) pz0) (s_var rfl) (s_var rfl) (by rfl)))) a_nil))))))) (b_one s_never) b_nil) (b_one (s_if (t_cmp (ok_ne (hu64 hr)) (s_callIf (c := isDkL) (s_callTy (call_listD rfl) rd_listD (by rfl) T.n_list (by decide +kernel) (a_cons (s_var rfl) a_nil)) (s_callTy call_list_of rd_list (by rfl) T.n_list (by decide +kernel) (a_cons (s_var rfl) a_nil))) (s_callIf (c := isDkL) (s_callTy (call_listD rfl) rd_listD (by rfl) T.n_list (by decide +kernel) (a_cons (s_meth T.cl_Scene T.me_Scene_in_order (ok_Scene_in_order T) (hr.mono (by decide)) (pz_of (takes_of rfl rfl rfl rfl)) (s_var rfl) (a_cons (s_var rfl) a_nil)) a_nil)) (s_callTy call_list_of rd_list (by rfl) T.n_list (by decide +kernel) (a_cons (s_meth T.cl_Scene T.me_Scene_in_order (ok_Scene_in_order T) (hr.mono (by decide)) (pz_of (takes_of rfl rfl rfl rfl)) (s_var rfl) (a_cons (s_var rfl) a_nil)) a_nil))) (nomark _)) (b_one s_never) b_nil)))

def f_Scene_remaining : Fd := runB 6 2 (bCons (sExpr (eMeth 1 "check_set" f_Scene_check_set (eVar 0) (aCons (eVar 1) aNil))) (bCons (sAsg (eLc (iAny (eVar 1)) (.slot 2) tYesD (eBin (opOwnGet 1 f_Scene_getitem) (eVar 0) (eVar 2)) [2]) (gSlot 3)) (sRet (eCall opTuple (aCons (eLc (iRange1 (aCons (eUn (opFld 1 "_count") (eVar 0)) aNil)) (.slot 4) (eTru (eCall opAll (aCons (eLc (iAny (eVar 3)) (.slot 5) tYesD (eBin (opOwnIn false 0 f_Claim_contains) (eVar 4) (eVar 5)) [5]) aNil))) (eVar 4) [4]) aNil)))))
theorem sc_Scene_remaining : FnScope ["self", "said", "name", "claims", "world", "claim"] ["self", "said"] (defScope s_Scene_remaining) := ⟨rfl, rfl, rfl, by decide +kernel, rfl, by decide +kernel, by decide +kernel⟩
theorem ok_Scene_remaining (T : Txt K mg Γ Φ Ψ) : FnF Γ P w K mg base 5 (Φ 29) f_Scene_remaining := by
  obtain ⟨fd, hF, hb⟩ := T.F_Scene_remaining
  refine fn_body hF sc_Scene_remaining hb (by decide) fun cdv A outer s H E hr => ?_
  exact (b_cons (s_expr (s_meth T.cl_Scene T.me_Scene_check_set (ok_Scene_check_set T) (hr.mono (by decide)) (pz_of (takes_of rfl rfl rfl rfl)) (s_var rfl) (a_cons (s_var rfl) a_nil))) (b_cons (s_set sc_Scene_remaining.nd rfl (s_lc (own := [("name", 2)]) rfl sc_Scene_remaining.nd (i_any (s_var rfl)) (blkOk_by (N := ["self", "said", "name", "claims", "world", "claim"]) (sc := defScope s_Scene_remaining) (by decide +kernel)) (by decide) (fun s H C cl fp => (pgN (i := 2) sc_Scene_remaining.nd rfl)) (fun s H C cl fp => ts_nil) (fun s H C cl fp => (s_ownGet T.o_Scene_getitem.1 T.fi_Scene_getitem T.o_Scene_getitem.2 (ok_Scene_getitem T) (hr.mono (by decide)) pz0 (s_var rfl) (s_var rfl))))) (b_one (s_ret (s_callTy call_tuple_of rd_tuple (by rfl) T.n_tuple (by decide +kernel) (a_cons (s_lc (own := [("world", 4)]) rfl sc_Scene_remaining.nd (i_range1 (by rfl) T.n_range (a_cons (s_fld T.cl_Scene T.a_Scene_count (s_var rfl)) a_nil)) (blkOk_by (N := ["self", "said", "name", "claims", "world", "claim"]) (sc := defScope s_Scene_remaining) (by decide +kernel)) (by decide) (fun s H C cl fp => (pgN (i := 4) sc_Scene_remaining.nd rfl)) (fun s H C cl fp => (ts_one (t_truth (s_callB (cr_all rfl) rd_all (by rfl) T.n_all (by decide +kernel) (a_cons (s_lc (own := [("claim", 5)]) rfl sc_Scene_remaining.nd (i_any (s_var rfl)) (blkOk_by (by rfl)) (by decide) (fun s H C cl fp => (pgN (i := 5) sc_Scene_remaining.nd rfl)) (fun s H C cl fp => ts_nil) (fun s H C cl fp => (s_cmp (ok_ownIn T.o_Claim_contains.1 T.o_Claim_contains.2 (ok_Claim_contains T) (hr.mono (by decide)) pz0) (s_var rfl) (s_var rfl) (by rfl)))) a_nil))))) (fun s H C cl fp => (s_var rfl))) a_nil))))))

def f_Scene_call : Fd := runB 2 2 (sRet (eMeth 1 "remaining" f_Scene_remaining (eVar 0) (aCons (eVar 1) aNil)))
theorem sc_Scene_call : FnScope ["self", "said"] ["self", "said"] (defScope s_Scene_call) := ⟨rfl, rfl, rfl, by decide +kernel, rfl, by decide +kernel, by decide +kernel⟩
theorem ok_Scene_call (T : Txt K mg Γ Φ Ψ) : FnF Γ P w K mg base 6 (Φ 28) f_Scene_call := by
  obtain ⟨fd, hF, hb⟩ := T.F_Scene_call
  refine fn_body hF sc_Scene_call hb (by decide) fun cdv A outer s H E hr => ?_
  exact (b_one (s_ret (s_meth T.cl_Scene T.me_Scene_remaining (ok_Scene_remaining T) (hr.mono (by decide)) (pz_of (takes_of rfl rfl rfl rfl)) (s_var rfl) (a_cons (s_var rfl) a_nil))))

def f_Scene_sees : Fd := runB 3 3 (sRet (eBin opIxA (eBin opIxA (eUn (opFld 1 "_sights") (eVar 0)) (eVar 1)) (eVar 2)))
theorem sc_Scene_sees : FnScope ["self", "person", "world"] ["self", "person", "world"] (defScope s_Scene_sees) := ⟨rfl, rfl, rfl, by decide +kernel, rfl, by decide +kernel, by decide +kernel⟩
theorem ok_Scene_sees (T : Txt K mg Γ Φ Ψ) : FnF Γ P w K mg base 1 (Φ 32) f_Scene_sees := by
  obtain ⟨fd, hF, hb⟩ := T.F_Scene_sees
  refine fn_body hF sc_Scene_sees hb (by decide) fun cdv A outer s H E hr => ?_
  exact (b_one (s_ret (s_ixA (hu_of hr) (s_ixA (hu_of hr) (s_fld T.cl_Scene T.a_Scene_sights (s_var rfl)) (s_var rfl)) (s_var rfl))))

def f_Scene_eq : Fd := runB 2 2 (sRet (eAnd (eCall (opIsi ownC kt) (aCons (eVar 1) (aCons (eC (.gl 1)) aNil))) (eAnd (eBin opEq (eUn (opFld 1 "_count") (eVar 0)) (eUn (opFld 1 "_count") (eVar 1))) (eAnd (eBin opEq (eUn (opFld 1 "_real") (eVar 0)) (eUn (opFld 1 "_real") (eVar 1))) (eAnd (eBin opEq (eItems (eUn (opFld 1 "_sights") (eVar 0))) (eItems (eUn (opFld 1 "_sights") (eVar 1)))) (eAnd (eBin (opOwn2 0 f_Claim_eq) (eUn (opFld 1 "_fact") (eVar 0)) (eUn (opFld 1 "_fact") (eVar 1))) (eAnd (eBin (opEqA (fe1 0 f_Claim_eq)) (eItems (eUn (opFld 1 "_sentences") (eVar 0))) (eItems (eUn (opFld 1 "_sentences") (eVar 1)))) (eBin opEq (eUn (opFld 1 "_goals") (eVar 0)) (eUn (opFld 1 "_goals") (eVar 1))))))))))
theorem sc_Scene_eq : FnScope ["self", "other"] ["self", "other"] (defScope s_Scene_eq) := ⟨rfl, rfl, rfl, by decide +kernel, rfl, by decide +kernel, by decide +kernel⟩
theorem ok_Scene_eq (T : Txt K mg Γ Φ Ψ) : FnF Γ P w K mg base 11 (Φ 33) f_Scene_eq := by
  obtain ⟨fd, hF, hb⟩ := T.F_Scene_eq
  refine fn_body hF sc_Scene_eq hb (by decide) fun cdv A outer s H E hr => ?_
  exact (b_one (s_ret (s_and (s_callB call_isi (rd_isi T.isi T.kt_ok) (by rfl) T.n_isinstance (by decide +kernel) (a_cons (s_var rfl) (a_cons (s_glob (by rfl) T.c_Scene) a_nil))) (s_and (s_cmp (ok_eq (hu64 hr)) (s_fld T.cl_Scene T.a_Scene_count (s_var rfl)) (s_fld T.cl_Scene T.a_Scene_count (s_var rfl)) (nomark _)) (s_and (s_cmp (ok_eq (hu64 hr)) (s_fld T.cl_Scene T.a_Scene_real (s_var rfl)) (s_fld T.cl_Scene T.a_Scene_real (s_var rfl)) (nomark _)) (s_and (s_cmp (ok_eq (hu64 hr)) (s_items rfl (s_fld T.cl_Scene T.a_Scene_sights (s_var rfl)) (by rfl) T.n_list) (s_items rfl (s_fld T.cl_Scene T.a_Scene_sights (s_var rfl)) (by rfl) T.n_list) (nomark _)) (s_and (s_cmp (ok_ownEq hr.units0 T.nf_Claim T.o_Claim_eq.1 T.o_Claim_eq.2 (ok_Claim_eq T) (hr.mono (by decide)) (pz_of (takes_of rfl rfl rfl rfl))) (s_fld T.cl_Scene T.a_Scene_fact (s_var rfl)) (s_fld T.cl_Scene T.a_Scene_fact (s_var rfl)) (nomark _)) (s_and (s_cmp (ok_eqA (eqOwn_one T.o_Claim_eq.1 T.o_Claim_eq.2 (ok_Claim_eq T) qt_Claim_eq) (hr.mono (by decide))) (s_items rfl (s_fld T.cl_Scene T.a_Scene_sentences (s_var rfl)) (by rfl) T.n_list) (s_items rfl (s_fld T.cl_Scene T.a_Scene_sentences (s_var rfl)) (by rfl) T.n_list) (nomark _)) (s_one (s_cmp (ok_eq (hu64 hr)) (s_fld T.cl_Scene T.a_Scene_goals (s_var rfl)) (s_fld T.cl_Scene T.a_Scene_goals (s_var rfl)) (nomark _)))))))))))

def f_check_scene : Fd := runB 1 1 (sIf (tNot (eTru (eCall (opIsi ownC kt) (aCons (eVar 0) (aCons (eC (.gl 1)) aNil))))) sNever bNil)
theorem sc_check_scene : FnScope ["scene"] ["scene"] (defScope s_check_scene) := ⟨rfl, rfl, rfl, by decide +kernel, rfl, by decide +kernel, by decide +kernel⟩
theorem ok_check_scene (T : Txt K mg Γ Φ Ψ) : FnF Γ P w K mg base 1 (Φ 35) f_check_scene := by
  obtain ⟨fd, hF, hb⟩ := T.F_check_scene
  refine fn_body hF sc_check_scene hb (by decide) fun cdv A outer s H E hr => ?_
  exact (b_one (s_if (t_not (t_truth (s_callB call_isi (rd_isi T.isi T.kt_ok) (by rfl) T.n_isinstance (by decide +kernel) (a_cons (s_var rfl) (a_cons (s_glob (by rfl) T.c_Scene) a_nil))))) (b_one s_never) b_nil))

def f_is_fact_in : Fd := runB 3 2 (sRet (eCall opAll (aCons (eLc (iAny (eVar 1)) (.slot 2) tYesD (eBin (opOwnIn false 0 f_Claim_contains) (eVar 2) (eProp 1 f_Scene_fact (eVar 0))) [2]) aNil)))
theorem sc_is_fact_in : FnScope ["scene", "worlds", "world"] ["scene", "worlds"] (defScope s_is_fact_in) := ⟨rfl, rfl, rfl, by decide +kernel, rfl, by decide +kernel, by decide +kernel⟩
theorem ok_is_fact_in (T : Txt K mg Γ Φ Ψ) : FnF Γ P w K mg base 3 (Φ 56) f_is_fact_in := by
  obtain ⟨fd, hF, hb⟩ := T.F_is_fact_in
  refine fn_body hF sc_is_fact_in hb (by decide) fun cdv A outer s H E hr => ?_
  exact (b_one (s_ret (s_callB (cr_all rfl) rd_all (by rfl) T.n_all (by decide +kernel) (a_cons (s_lc (own := [("world", 2)]) rfl sc_is_fact_in.nd (i_any (s_var rfl)) (blkOk_by (N := ["scene", "worlds", "world"]) (sc := defScope s_is_fact_in) (by decide +kernel)) (by decide) (fun s H C cl fp => (pgN (i := 2) sc_is_fact_in.nd rfl)) (fun s H C cl fp => ts_nil) (fun s H C cl fp => (s_cmp (ok_ownIn T.o_Claim_contains.1 T.o_Claim_contains.2 (ok_Claim_contains T) (hr.mono (by decide)) pz0) (s_var rfl) (s_prop T.cl_Scene T.p_Scene_fact (ok_Scene_fact T) (hr.mono (by decide)) (s_var rfl)) (by rfl)))) a_nil))))

def f_confused : Fd := runB 6 4 (bCons (sAsg (eLc (iAny (eVar 3)) (.slot 4) tYesD (eMeth 1 "sees" f_Scene_sees (eVar 0) (aCons (eVar 2) (aCons (eVar 4) aNil))) [4]) (gSlot 5)) (sRet (eCall opTuple (aCons (eLc (iAny (eVar 1)) (.slot 4) (tBin opInA (eMeth 1 "sees" f_Scene_sees (eVar 0) (aCons (eVar 2) (aCons (eVar 4) aNil))) (eVar 5)) (eVar 4) [4]) aNil))))
theorem sc_confused : FnScope ["scene", "left", "person", "worlds", "world", "seen"] ["scene", "left", "person", "worlds"] (defScope s_confused) := ⟨rfl, rfl, rfl, by decide +kernel, rfl, by decide +kernel, by decide +kernel⟩
theorem ok_confused (T : Txt K mg Γ Φ Ψ) : FnF Γ P w K mg base 2 (Φ 51) f_confused := by
  obtain ⟨fd, hF, hb⟩ := T.F_confused
  refine fn_body hF sc_confused hb (by decide) fun cdv A outer s H E hr => ?_
  exact (b_cons (s_set sc_confused.nd rfl (s_lc (own := [("world", 4)]) rfl sc_confused.nd (i_any (s_var rfl)) (blkOk_by (N := ["scene", "left", "person", "worlds", "world", "seen"]) (sc := defScope s_confused) (by decide +kernel)) (by decide) (fun s H C cl fp => (pgN (i := 4) sc_confused.nd rfl)) (fun s H C cl fp => ts_nil) (fun s H C cl fp => (s_meth T.cl_Scene T.me_Scene_sees (ok_Scene_sees T) (hr.mono (by decide)) pz0 (s_var rfl) (a_cons (s_var rfl) (a_cons (s_var rfl) a_nil)))))) (b_one (s_ret (s_callTy call_tuple_of rd_tuple (by rfl) T.n_tuple (by decide +kernel) (a_cons (s_lc (own := [("world", 4)]) rfl sc_confused.nd (i_any (s_var rfl)) (blkOk_by (N := ["scene", "left", "person", "worlds", "world", "seen"]) (sc := defScope s_confused) (by decide +kernel)) (by decide) (fun s H C cl fp => (pgN (i := 4) sc_confused.nd rfl)) (fun s H C cl fp => (ts_one (t_inA (hu_of hr) (s_meth T.cl_Scene T.me_Scene_sees (ok_Scene_sees T) (hr.mono (by decide)) pz0 (s_var rfl) (a_cons (s_var rfl) (a_cons (s_var rfl) a_nil))) (s_var rfl)))) (fun s H C cl fp => (s_var rfl))) a_nil)))))

def f_smallest_circle : Fd := runB 5 3 (bCut [(sAsg (eLstM (aCons (eTup (aCons (eProp 1 f_Scene_actual (eVar 0)) aNil)) aNil)) (gSlot 3)), (sFor (iAny (eVar 2)) (gSlot 4) (sExpr (eBm opAppend (eVar 3) (aCons (eCall f_confused (aCons (eVar 0) (aCons (eVar 1) (aCons (eVar 4) (aCons (eBin opIxA (eVar 3) (eUn opNeg (eC (.int 1)))) aNil))))) aNil))))] (sRet (eCall opTuple (aCons (eVar 3) aNil))))
theorem sc_smallest_circle : FnScope ["scene", "left", "chain", "rings", "person"] ["scene", "left", "chain"] (defScope s_smallest_circle) := ⟨rfl, rfl, rfl, by decide +kernel, rfl, by decide +kernel, by decide +kernel⟩
theorem ok_smallest_circle (T : Txt K mg Γ Φ Ψ) : FnF Γ P w K mg base 3 (Φ 52) f_smallest_circle := by
  obtain ⟨fd, hF, hb⟩ := T.F_smallest_circle
  refine fn_body hF sc_smallest_circle hb (by decide) fun cdv A outer s H E hr => ?_
  exact (b_cut (l := [_, _]) (.cons (s_set sc_smallest_circle.nd rfl (s_lstM (a_cons (s_tup (a_cons (s_prop T.cl_Scene T.p_Scene_actual (ok_Scene_actual T) (hr.mono (by decide)) (s_var rfl)) a_nil)) a_nil))) (.cons (s_for (passes_of rfl) rfl (i_any (s_var rfl)) (g_slot sc_smallest_circle.nd rfl) (b_one (s_expr (s_bm F.slot_list_append F.type_list_append mt_append rd_append (s_var rfl) (a_cons (s_call (ok_confused T) (hr.mono (by decide)) (pz_of (takes_of rfl rfl rfl rfl)) (by rfl) T.m_confused T.kp_confused (a_cons (s_var rfl) (a_cons (s_var rfl) (a_cons (s_var rfl) (a_cons (s_ixA (hu_of hr) (s_var rfl) (s_un ok_neg s_int)) a_nil))))) a_nil))))) .nil)) (b_one (s_ret (s_callTy call_tuple_of rd_tuple (by rfl) T.n_tuple (by decide +kernel) (a_cons (s_var rfl) a_nil)))))

def f_worlds_left : Fd := runB 4 3 (bCons (sExpr (eCall f_check_scene (aCons (eVar 0) aNil))) (bCons (sAsg (eMeth 1 "remaining" f_Scene_remaining (eVar 0) (aCons (eVar 1) aNil)) (gSlot 3)) (bCons (sIf (tNot (eTru (eCall f_is_chain (aCons (eVar 2) (aCons (eProp 1 f_Scene_people (eVar 0)) aNil))))) sNever bNil) (sRet (eVar 3)))))
theorem sc_worlds_left : FnScope ["scene", "said", "chain", "left"] ["scene", "said", "chain"] (defScope s_worlds_left) := ⟨rfl, rfl, rfl, by decide +kernel, rfl, by decide +kernel, by decide +kernel⟩
theorem ok_worlds_left (T : Txt K mg Γ Φ Ψ) : FnF Γ P w K mg base 6 (Φ 50) f_worlds_left := by
  obtain ⟨fd, hF, hb⟩ := T.F_worlds_left
  refine fn_body hF sc_worlds_left hb (by decide) fun cdv A outer s H E hr => ?_
  exact (b_cons (s_expr (s_call (ok_check_scene T) (hr.mono (by decide)) (pz_of (takes_of rfl rfl rfl rfl)) (by rfl) T.m_check_scene T.kp_check_scene (a_cons (s_var rfl) a_nil))) (b_cons (s_set sc_worlds_left.nd rfl (s_meth T.cl_Scene T.me_Scene_remaining (ok_Scene_remaining T) (hr.mono (by decide)) (pz_of (takes_of rfl rfl rfl rfl)) (s_var rfl) (a_cons (s_var rfl) a_nil))) (b_cons (s_if (t_not (t_truth (s_call (ok_is_chain T) (hr.mono (by decide)) (pz_of (takes_of rfl rfl rfl rfl)) (by rfl) T.m_is_chain T.kp_is_chain (a_cons (s_var rfl) (a_cons (s_prop T.cl_Scene T.p_Scene_people (ok_Scene_people T) (hr.mono (by decide)) (s_var rfl)) a_nil))))) (b_one s_never) b_nil) (b_one (s_ret (s_var rfl))))))

def f_holds : Fd := runB 4 3 (bCons (sAsg (eCall f_worlds_left (aCons (eVar 0) (aCons (eVar 1) (aCons (eVar 2) aNil)))) (gSlot 3)) (sRet (eCall f_is_fact_in (aCons (eVar 0) (aCons (eBin opIxA (eCall f_smallest_circle (aCons (eVar 0) (aCons (eVar 3) (aCons (eVar 2) aNil)))) (eUn opNeg (eC (.int 1)))) aNil)))))
theorem sc_holds : FnScope ["scene", "said", "chain", "left"] ["scene", "said", "chain"] (defScope s_holds) := ⟨rfl, rfl, rfl, by decide +kernel, rfl, by decide +kernel, by decide +kernel⟩
theorem ok_holds (T : Txt K mg Γ Φ Ψ) : FnF Γ P w K mg base 7 (Φ 44) f_holds := by
  obtain ⟨fd, hF, hb⟩ := T.F_holds
  refine fn_body hF sc_holds hb (by decide) fun cdv A outer s H E hr => ?_
  exact (b_cons (s_set sc_holds.nd rfl (s_call (ok_worlds_left T) (hr.mono (by decide)) (pz_of (takes_of rfl rfl rfl rfl)) (by rfl) T.m_worlds_left T.kp_worlds_left (a_cons (s_var rfl) (a_cons (s_var rfl) (a_cons (s_var rfl) a_nil))))) (b_one (s_ret (s_call (ok_is_fact_in T) (hr.mono (by decide)) (pz_of (takes_of rfl rfl rfl rfl)) (by rfl) T.m_is_fact_in T.kp_is_fact_in (a_cons (s_var rfl) (a_cons (s_ixA (hu_of hr) (s_call (ok_smallest_circle T) (hr.mono (by decide)) (pz_of (takes_of rfl rfl rfl rfl)) (by rfl) T.m_smallest_circle T.kp_smallest_circle (a_cons (s_var rfl) (a_cons (s_var rfl) (a_cons (s_var rfl) a_nil)))) (s_un ok_neg s_int)) a_nil))))))

def f_path_through : Fd := runB 7 3 (bCons (sAsg (eLc (iAny (eBin opIxA (eVar 1) (eUn opNeg (eC (.int 1))))) (.slot 3) (tBin (opOwnIn true 0 f_Claim_contains) (eVar 3) (eProp 1 f_Scene_fact (eVar 0))) (eVar 3) [3]) (gSlot 4)) (bCons (sAsg (eLst (aCons (eBin opIxA (eVar 4) (eC (.int 0))) aNil)) (gSlot 5)) (bCons (sFor (iRevRg1 (eCall opLenU (aCons (eVar 2) aNil))) (gSlot 6) (sAsg (eLst (aCons (eBin opIxA (eCall f_confused (aCons (eVar 0) (aCons (eBin opIxA (eVar 1) (eVar 6)) (aCons (eBin opIxA (eVar 2) (eVar 6)) (aCons (eTup (aCons (eBin opIxA (eVar 5) (eC (.int 0))) aNil)) aNil))))) (eC (.int 0))) (aStar (eVar 5) aNil))) (gSlot 5))) (sRet (eCall opTuple (aCons (eVar 5) aNil))))))
theorem sc_path_through : FnScope ["scene", "rings", "chain", "world", "wrong", "path", "place"] ["scene", "rings", "chain"] (defScope s_path_through) := ⟨rfl, rfl, rfl, by decide +kernel, rfl, by decide +kernel, by decide +kernel⟩
theorem ok_path_through (T : Txt K mg Γ Φ Ψ) : FnF Γ P w K mg base 3 (Φ 53) f_path_through := by
  obtain ⟨fd, hF, hb⟩ := T.F_path_through
  refine fn_body hF sc_path_through hb (by decide) fun cdv A outer s H E hr => ?_
  exact (b_cons (s_setLc (own := [("world", 3)]) rfl sc_path_through.nd rfl rfl (i_any (s_ixA (hu_of hr) (s_var rfl) (s_un ok_neg s_int))) (blkOk_by (N := ["scene", "rings", "chain", "world", "wrong", "path", "place"]) (sc := defScope s_path_through) (by decide +kernel)) (by decide) (fun s H C cl fp => (pgN (i := 3) sc_path_through.nd rfl)) (fun s H C cl fp => (ts_one (t_cmp (ok_ownNotIn T.o_Claim_contains.1 T.o_Claim_contains.2 (ok_Claim_contains T) (hr.mono (by decide)) pz0) (s_var rfl) (s_prop T.cl_Scene T.p_Scene_fact (ok_Scene_fact T) (hr.mono (by decide)) (s_var rfl)) (by rfl)))) (fun s H C cl fp => (s_var rfl))) (b_cons (s_set sc_path_through.nd rfl (s_lst (a_cons (s_ixA (hu_of hr) (s_var rfl) s_int) a_nil))) (b_cons (s_for (passes_of rfl) rfl (i_revRg1 (by rfl) T.n_reversed (by rfl) T.n_range (s_callIf (c := isDkL) (s_callB call_lenRd rd_lenDk (by rfl) T.n_len (by decide +kernel) (a_cons (s_var rfl) a_nil)) (s_callB call_len3 rd_len (by rfl) T.n_len (by decide +kernel) (a_cons (s_var rfl) a_nil)))) (g_slot sc_path_through.nd rfl) (b_one (s_set sc_path_through.nd rfl (s_lst (a_cons (s_ixA (hu_of hr) (s_call (ok_confused T) (hr.mono (by decide)) (pz_of (takes_of rfl rfl rfl rfl)) (by rfl) T.m_confused T.kp_confused (a_cons (s_var rfl) (a_cons (s_ixA (hu_of hr) (s_var rfl) (s_var rfl)) (a_cons (s_ixA (hu_of hr) (s_var rfl) (s_var rfl)) (a_cons (s_tup (a_cons (s_ixA (hu_of hr) (s_var rfl) s_int) a_nil)) a_nil))))) s_int) (a_star (s_var rfl) a_nil)))))) (b_one (s_ret (s_callTy call_tuple_of rd_tuple (by rfl) T.n_tuple (by decide +kernel) (a_cons (s_var rfl) a_nil)))))))

def f_evidence : Fd := runB 5 3 (bCons (sAsg (eCall f_worlds_left (aCons (eVar 0) (aCons (eVar 1) (aCons (eVar 2) aNil)))) (gSlot 3)) (bCons (sAsg (eCall f_smallest_circle (aCons (eVar 0) (aCons (eVar 3) (aCons (eVar 2) aNil)))) (gSlot 4)) (bCons (sIf (eTru (eCall f_is_fact_in (aCons (eVar 0) (aCons (eBin opIxA (eVar 4) (eUn opNeg (eC (.int 1)))) aNil)))) (sRet (eVar 4)) bNil) (sRet (eCall f_path_through (aCons (eVar 0) (aCons (eVar 4) (aCons (eVar 2) aNil))))))))
theorem sc_evidence : FnScope ["scene", "said", "chain", "left", "rings"] ["scene", "said", "chain"] (defScope s_evidence) := ⟨rfl, rfl, rfl, by decide +kernel, rfl, by decide +kernel, by decide +kernel⟩
theorem ok_evidence (T : Txt K mg Γ Φ Ψ) : FnF Γ P w K mg base 7 (Φ 45) f_evidence := by
  obtain ⟨fd, hF, hb⟩ := T.F_evidence
  refine fn_body hF sc_evidence hb (by decide) fun cdv A outer s H E hr => ?_
  exact (b_cons (s_set sc_evidence.nd rfl (s_call (ok_worlds_left T) (hr.mono (by decide)) (pz_of (takes_of rfl rfl rfl rfl)) (by rfl) T.m_worlds_left T.kp_worlds_left (a_cons (s_var rfl) (a_cons (s_var rfl) (a_cons (s_var rfl) a_nil))))) (b_cons (s_set sc_evidence.nd rfl (s_call (ok_smallest_circle T) (hr.mono (by decide)) (pz_of (takes_of rfl rfl rfl rfl)) (by rfl) T.m_smallest_circle T.kp_smallest_circle (a_cons (s_var rfl) (a_cons (s_var rfl) (a_cons (s_var rfl) a_nil))))) (b_cons (s_if (t_truth (s_call (ok_is_fact_in T) (hr.mono (by decide)) (pz_of (takes_of rfl rfl rfl rfl)) (by rfl) T.m_is_fact_in T.kp_is_fact_in (a_cons (s_var rfl) (a_cons (s_ixA (hu_of hr) (s_var rfl) (s_un ok_neg s_int)) a_nil)))) (b_one (s_ret (s_var rfl))) b_nil) (b_one (s_ret (s_call (ok_path_through T) (hr.mono (by decide)) (pz_of (takes_of rfl rfl rfl rfl)) (by rfl) T.m_path_through T.kp_path_through (a_cons (s_var rfl) (a_cons (s_var rfl) (a_cons (s_var rfl) a_nil)))))))))

def f_meets : Fd := runB 7 2 (bCut [(sExpr (eCall f_check_scene (aCons (eVar 0) aNil))), (sAsg (eMeth 1 "remaining" f_Scene_remaining (eVar 0) (aCons (eVar 1) aNil)) (gSlot 2)), (sAsg (eLstM aNil) (gSlot 3)), (sFor (iAny (eProp 1 f_Scene_goals (eVar 0))) (gTup [(gSlot 4), (gSlot 5)]) (bCons (sAsg (eCall f_is_fact_in (aCons (eVar 0) (aCons (eBin opIxA (eCall f_smallest_circle (aCons (eVar 0) (aCons (eVar 2) (aCons (eVar 4) aNil)))) (eUn opNeg (eC (.int 1)))) aNil))) (gSlot 6)) (sExpr (eBm opAppend (eVar 3) (aCons (eBin opEq (eVar 6) (eVar 5)) aNil)))))] (sRet (eVar 3)))
theorem sc_meets : FnScope ["scene", "said", "left", "met", "chain", "wanted", "known"] ["scene", "said"] (defScope s_meets) := ⟨rfl, rfl, rfl, by decide +kernel, rfl, by decide +kernel, by decide +kernel⟩
theorem ok_meets (T : Txt K mg Γ Φ Ψ) : FnF Γ P w K mg base 6 (Φ 46) f_meets := by
  obtain ⟨fd, hF, hb⟩ := T.F_meets
  refine fn_body hF sc_meets hb (by decide) fun cdv A outer s H E hr => ?_
  exact (b_cut (l := [_, _, _, _]) (.cons (s_expr (s_call (ok_check_scene T) (hr.mono (by decide)) (pz_of (takes_of rfl rfl rfl rfl)) (by rfl) T.m_check_scene T.kp_check_scene (a_cons (s_var rfl) a_nil))) (.cons (s_set sc_meets.nd rfl (s_meth T.cl_Scene T.me_Scene_remaining (ok_Scene_remaining T) (hr.mono (by decide)) (pz_of (takes_of rfl rfl rfl rfl)) (s_var rfl) (a_cons (s_var rfl) a_nil))) (.cons (s_set sc_meets.nd rfl (s_lstM a_nil)) (.cons (s_for (passes_of rfl) rfl (i_any (s_prop T.cl_Scene T.p_Scene_goals (ok_Scene_goals T) (hr.mono (by decide)) (s_var rfl))) (g_tup rfl (gs_cons (g_slot sc_meets.nd rfl) (gs_cons (g_slot sc_meets.nd rfl) gs_nil))) (b_cons (s_set sc_meets.nd rfl (s_call (ok_is_fact_in T) (hr.mono (by decide)) (pz_of (takes_of rfl rfl rfl rfl)) (by rfl) T.m_is_fact_in T.kp_is_fact_in (a_cons (s_var rfl) (a_cons (s_ixA (hu_of hr) (s_call (ok_smallest_circle T) (hr.mono (by decide)) (pz_of (takes_of rfl rfl rfl rfl)) (by rfl) T.m_smallest_circle T.kp_smallest_circle (a_cons (s_var rfl) (a_cons (s_var rfl) (a_cons (s_var rfl) a_nil)))) (s_un ok_neg s_int)) a_nil)))) (b_one (s_expr (s_bm F.slot_list_append F.type_list_append mt_append rd_append (s_var rfl) (a_cons (s_cmp (ok_eq (hu64 hr)) (s_var rfl) (s_var rfl) (nomark _)) a_nil)))))) .nil)))) (b_one (s_ret (s_var rfl))))

def f_has_all : Fd := runB 3 2 (sRet (eCall opAll (aCons (eLc (iAny (eVar 1)) (.slot 2) tYesD (eBin opInA (eVar 2) (eVar 0)) [2]) aNil)))
theorem sc_has_all : FnScope ["worlds", "others", "world"] ["worlds", "others"] (defScope s_has_all) := ⟨rfl, rfl, rfl, by decide +kernel, rfl, by decide +kernel, by decide +kernel⟩
theorem ok_has_all (T : Txt K mg Γ Φ Ψ) : FnF Γ P w K mg base 1 (Φ 55) f_has_all := by
  obtain ⟨fd, hF, hb⟩ := T.F_has_all
  refine fn_body hF sc_has_all hb (by decide) fun cdv A outer s H E hr => ?_
  exact (b_one (s_ret (s_callB (cr_all rfl) rd_all (by rfl) T.n_all (by decide +kernel) (a_cons (s_lc (own := [("world", 2)]) rfl sc_has_all.nd (i_any (s_var rfl)) (blkOk_by (N := ["worlds", "others", "world"]) (sc := defScope s_has_all) (by decide +kernel)) (by decide) (fun s H C cl fp => (pgN (i := 2) sc_has_all.nd rfl)) (fun s H C cl fp => ts_nil) (fun s H C cl fp => (s_inA (hu_of hr) (s_var rfl) (s_var rfl)))) a_nil))))

def f_is_ring : Fd := runB 2 2 (sRet (eAnd (eBin opEq (eCall opListU (aCons (eVar 0) aNil)) (eSortedSetU (eVar 0))) (eCall f_has_all (aCons (eVar 1) (aCons (eVar 0) aNil)))))
theorem sc_is_ring : FnScope ["worlds", "left"] ["worlds", "left"] (defScope s_is_ring) := ⟨rfl, rfl, rfl, by decide +kernel, rfl, by decide +kernel, by decide +kernel⟩
theorem ok_is_ring (T : Txt K mg Γ Φ Ψ) : FnF Γ P w K mg base 2 (Φ 54) f_is_ring := by
  obtain ⟨fd, hF, hb⟩ := T.F_is_ring
  refine fn_body hF sc_is_ring hb (by decide) fun cdv A outer s H E hr => ?_
  exact (b_one (s_ret (s_and (s_cmp (ok_eq (hu64 hr)) (s_callIf (c := isDkL) (s_callTy (call_listD rfl) rd_listD (by rfl) T.n_list (by decide +kernel) (a_cons (s_var rfl) a_nil)) (s_callTy call_list_of rd_list (by rfl) T.n_list (by decide +kernel) (a_cons (s_var rfl) a_nil))) (s_sortedSetU rfl (by rfl) T.n_sorted (by rfl) T.n_set (s_var rfl)) (nomark _)) (s_one (s_call (ok_has_all T) (hr.mono (by decide)) (pz_of (takes_of rfl rfl rfl rfl)) (by rfl) T.m_has_all T.kp_has_all (a_cons (s_var rfl) (a_cons (s_var rfl) a_nil)))))))

def f_is_circle : Fd := runB 10 4 (bCons (sAsg (eCall f_worlds_left (aCons (eVar 0) (aCons (eVar 1) (aCons (eVar 2) aNil)))) (gSlot 4)) (bCons (sAsg (eBin opSub (eProp 0 f_Claim_total (eProp 1 f_Scene_fact (eVar 0))) (eC (.int 1))) (gSlot 5)) (bCons (sIf (tOr (tNot (eTru (eCall (opIsi ownC kt) (aCons (eVar 3) (aCons (eC (.ty "tuple")) aNil))))) (tNot (eTru (eCall opAll (aCons (eLc (iAny (eVar 3)) (.slot 6) tYesD (eCall f_are_numbers (aCons (eVar 6) (aCons (eC (.int 0)) (aCons (eVar 5) aNil)))) [6]) aNil))))) (sRaise 16) bNil) (bCons (sIf (tOr (tBin opNe (eCall opLenU (aCons (eVar 3) aNil)) (eBin opAdd (eCall opLenU (aCons (eVar 2) aNil)) (eC (.int 1)))) (tNot (eTru (eCall opAll (aCons (eLc (iAny (eVar 3)) (.slot 6) tYesD (eCall f_is_ring (aCons (eVar 6) (aCons (eVar 4) aNil))) [6]) aNil))))) (sRet (eC (.bl false))) bNil) (bCons (sAsg (eLc (iZip3 (aCons (eVar 2) (aCons (eVar 3) (aCons (eCut (eVar 3) (oSome (eC (.int 1))) oNone) aNil)))) (.tup [7, 8, 6]) tYesD (eCall f_has_all (aCons (eVar 6) (aCons (eCall f_confused (aCons (eVar 0) (aCons (eVar 4) (aCons (eVar 7) (aCons (eVar 8) aNil))))) aNil))) [7, 8, 6]) (gSlot 9)) (sRet (eAnd (eBin opInA (eProp 1 f_Scene_actual (eVar 0)) (eBin opIxA (eVar 3) (eC (.int 0)))) (eAnd (eCall opAll (aCons (eVar 9) aNil)) (eCall f_is_fact_in (aCons (eVar 0) (aCons (eBin opIxA (eVar 3) (eUn opNeg (eC (.int 1)))) aNil)))))))))))
theorem sc_is_circle : FnScope ["scene", "said", "chain", "found", "left", "last", "ring", "person", "before", "closed"] ["scene", "said", "chain", "found"] (defScope s_is_circle) := ⟨rfl, rfl, rfl, by decide +kernel, rfl, by decide +kernel, by decide +kernel⟩
theorem ok_is_circle (T : Txt K mg Γ Φ Ψ) : FnF Γ P w K mg base 7 (Φ 47) f_is_circle := by
  obtain ⟨fd, hF, hb⟩ := T.F_is_circle
  refine fn_body hF sc_is_circle hb (by decide) fun cdv A outer s H E hr => ?_
  exact (b_cons (s_set sc_is_circle.nd rfl (s_call (ok_worlds_left T) (hr.mono (by decide)) (pz_of (takes_of rfl rfl rfl rfl)) (by rfl) T.m_worlds_left T.kp_worlds_left (a_cons (s_var rfl) (a_cons (s_var rfl) (a_cons (s_var rfl) a_nil))))) (b_cons (s_set sc_is_circle.nd rfl (s_bin ok_sub (s_prop T.cl_Claim T.p_Claim_total (ok_Claim_total T) (hr.mono (by decide)) (s_prop T.cl_Scene T.p_Scene_fact (ok_Scene_fact T) (hr.mono (by decide)) (s_var rfl))) s_int)) (b_cons (s_if (t_bool (w_or (t_not (t_truth (s_callB call_isi (rd_isi T.isi T.kt_ok) (by rfl) T.n_isinstance (by decide +kernel) (a_cons (s_var rfl) (a_cons (s_ty (by rfl) T.n_tuple (by decide +kernel) (by decide)) a_nil))))) (w_or1 (t_not (t_truth (s_callB (cr_all rfl) rd_all (by rfl) T.n_all (by decide +kernel) (a_cons (s_lc (own := [("ring", 6)]) rfl sc_is_circle.nd (i_any (s_var rfl)) (blkOk_by (N := ["scene", "said", "chain", "found", "left", "last", "ring", "person", "before", "closed"]) (sc := defScope s_is_circle) (by decide +kernel)) (by decide) (fun s H C cl fp => (pgN (i := 6) sc_is_circle.nd rfl)) (fun s H C cl fp => ts_nil) (fun s H C cl fp => (s_call (ok_are_numbers T) (hr.mono (by decide)) pz0 (by rfl) T.m_are_numbers T.kp_are_numbers (a_cons (s_var rfl) (a_cons s_int (a_cons (s_var rfl) a_nil)))))) a_nil))))))) (b_one (s_raise rfl (takes_of rfl rfl rfl rfl) (mk_own T.x_BadWorlds T.c_BadWorlds (by rfl)))) b_nil) (b_cons (s_if (t_bool (w_or (t_cmp (ok_ne (hu64 hr)) (s_callIf (c := isDkL) (s_callB call_lenRd rd_lenDk (by rfl) T.n_len (by decide +kernel) (a_cons (s_var rfl) a_nil)) (s_callB call_len3 rd_len (by rfl) T.n_len (by decide +kernel) (a_cons (s_var rfl) a_nil))) (s_bin ok_add (s_callIf (c := isDkL) (s_callB call_lenRd rd_lenDk (by rfl) T.n_len (by decide +kernel) (a_cons (s_var rfl) a_nil)) (s_callB call_len3 rd_len (by rfl) T.n_len (by decide +kernel) (a_cons (s_var rfl) a_nil))) s_int) (nomark _)) (w_or1 (t_not (t_truth (s_callB (cr_all rfl) rd_all (by rfl) T.n_all (by decide +kernel) (a_cons (s_lc (own := [("ring", 6)]) rfl sc_is_circle.nd (i_any (s_var rfl)) (blkOk_by (N := ["scene", "said", "chain", "found", "left", "last", "ring", "person", "before", "closed"]) (sc := defScope s_is_circle) (by decide +kernel)) (by decide) (fun s H C cl fp => (pgN (i := 6) sc_is_circle.nd rfl)) (fun s H C cl fp => ts_nil) (fun s H C cl fp => (s_call (ok_is_ring T) (hr.mono (by decide)) pz0 (by rfl) T.m_is_ring T.kp_is_ring (a_cons (s_var rfl) (a_cons (s_var rfl) a_nil))))) a_nil))))))) (b_one (s_ret s_bl)) b_nil) (b_cons (s_setLc (own := [("person", 7), ("before", 8), ("ring", 6)]) rfl sc_is_circle.nd rfl rfl (i_zip3 (by rfl) T.n_zip (a_cons (s_var rfl) (a_cons (s_var rfl) (a_cons (s_cut (s_var rfl) (o_some s_int) o_none) a_nil)))) (blkOk_by (N := ["scene", "said", "chain", "found", "left", "last", "ring", "person", "before", "closed"]) (sc := defScope s_is_circle) (by decide +kernel)) (by decide) (fun s H C cl fp => (pgN3 rfl sc_is_circle.nd rfl rfl rfl)) (fun s H C cl fp => ts_nil) (fun s H C cl fp => (s_call (ok_has_all T) (hr.mono (by decide)) pz0 (by rfl) T.m_has_all T.kp_has_all (a_cons (s_var rfl) (a_cons (s_call (ok_confused T) (hr.mono (by decide)) pz0 (by rfl) T.m_confused T.kp_confused (a_cons (s_var rfl) (a_cons (s_var rfl) (a_cons (s_var rfl) (a_cons (s_var rfl) a_nil))))) a_nil))))) (b_one (s_ret (s_and (s_inA (hu_of hr) (s_prop T.cl_Scene T.p_Scene_actual (ok_Scene_actual T) (hr.mono (by decide)) (s_var rfl)) (s_ixA (hu_of hr) (s_var rfl) s_int)) (s_and (s_callB (cr_all rfl) rd_all (by rfl) T.n_all (by decide +kernel) (a_cons (s_var rfl) a_nil)) (s_one (s_call (ok_is_fact_in T) (hr.mono (by decide)) (pz_of (takes_of rfl rfl rfl rfl)) (by rfl) T.m_is_fact_in T.kp_is_fact_in (a_cons (s_var rfl) (a_cons (s_ixA (hu_of hr) (s_var rfl) (s_un ok_neg s_int)) a_nil)))))))))))))

def f_is_path : Fd := runB 9 4 (bCons (sAsg (eCall f_worlds_left (aCons (eVar 0) (aCons (eVar 1) (aCons (eVar 2) aNil)))) (gSlot 4)) (bCons (sIf (tNot (eTru (eCall f_are_numbers (aCons (eVar 3) (aCons (eC (.int 0)) (aCons (eBin opSub (eProp 0 f_Claim_total (eProp 1 f_Scene_fact (eVar 0))) (eC (.int 1))) aNil)))))) (sRaise 16) bNil) (bCons (sIf (tOr (tBin opNe (eCall opLenU (aCons (eVar 3) aNil)) (eBin opAdd (eCall opLenU (aCons (eVar 2) aNil)) (eC (.int 1)))) (tNot (eTru (eCall f_has_all (aCons (eVar 4) (aCons (eVar 3) aNil)))))) (sRet (eC (.bl false))) bNil) (bCons (sAsg (eLc (iZip3 (aCons (eVar 2) (aCons (eVar 3) (aCons (eCut (eVar 3) (oSome (eC (.int 1))) oNone) aNil)))) (.tup [5, 6, 7]) tYesD (eBin opEq (eMeth 1 "sees" f_Scene_sees (eVar 0) (aCons (eVar 5) (aCons (eVar 6) aNil))) (eMeth 1 "sees" f_Scene_sees (eVar 0) (aCons (eVar 5) (aCons (eVar 7) aNil)))) [5, 6, 7]) (gSlot 8)) (sRet (eAnd (eBin opEq (eBin opIxA (eVar 3) (eC (.int 0))) (eProp 1 f_Scene_actual (eVar 0))) (eAnd (eCall opAll (aCons (eVar 8) aNil)) (eBin (opOwnIn true 0 f_Claim_contains) (eBin opIxA (eVar 3) (eUn opNeg (eC (.int 1)))) (eProp 1 f_Scene_fact (eVar 0))))))))))
theorem sc_is_path : FnScope ["scene", "said", "chain", "found", "left", "person", "before", "world", "linked"] ["scene", "said", "chain", "found"] (defScope s_is_path) := ⟨rfl, rfl, rfl, by decide +kernel, rfl, by decide +kernel, by decide +kernel⟩
theorem ok_is_path (T : Txt K mg Γ Φ Ψ) : FnF Γ P w K mg base 7 (Φ 48) f_is_path := by
  obtain ⟨fd, hF, hb⟩ := T.F_is_path
  refine fn_body hF sc_is_path hb (by decide) fun cdv A outer s H E hr => ?_
  exact (b_cons (s_set sc_is_path.nd rfl (s_call (ok_worlds_left T) (hr.mono (by decide)) (pz_of (takes_of rfl rfl rfl rfl)) (by rfl) T.m_worlds_left T.kp_worlds_left (a_cons (s_var rfl) (a_cons (s_var rfl) (a_cons (s_var rfl) a_nil))))) (b_cons (s_if (t_not (t_truth (s_call (ok_are_numbers T) (hr.mono (by decide)) (pz_of (takes_of rfl rfl rfl rfl)) (by rfl) T.m_are_numbers T.kp_are_numbers (a_cons (s_var rfl) (a_cons s_int (a_cons (s_bin ok_sub (s_prop T.cl_Claim T.p_Claim_total (ok_Claim_total T) (hr.mono (by decide)) (s_prop T.cl_Scene T.p_Scene_fact (ok_Scene_fact T) (hr.mono (by decide)) (s_var rfl))) s_int) a_nil)))))) (b_one (s_raise rfl (takes_of rfl rfl rfl rfl) (mk_own T.x_BadWorlds T.c_BadWorlds (by rfl)))) b_nil) (b_cons (s_if (t_bool (w_or (t_cmp (ok_ne (hu64 hr)) (s_callIf (c := isDkL) (s_callB call_lenRd rd_lenDk (by rfl) T.n_len (by decide +kernel) (a_cons (s_var rfl) a_nil)) (s_callB call_len3 rd_len (by rfl) T.n_len (by decide +kernel) (a_cons (s_var rfl) a_nil))) (s_bin ok_add (s_callIf (c := isDkL) (s_callB call_lenRd rd_lenDk (by rfl) T.n_len (by decide +kernel) (a_cons (s_var rfl) a_nil)) (s_callB call_len3 rd_len (by rfl) T.n_len (by decide +kernel) (a_cons (s_var rfl) a_nil))) s_int) (nomark _)) (w_or1 (t_not (t_truth (s_call (ok_has_all T) (hr.mono (by decide)) (pz_of (takes_of rfl rfl rfl rfl)) (by rfl) T.m_has_all T.kp_has_all (a_cons (s_var rfl) (a_cons (s_var rfl) a_nil)))))))) (b_one (s_ret s_bl)) b_nil) (b_cons (s_setLc (own := [("person", 5), ("before", 6), ("world", 7)]) rfl sc_is_path.nd rfl rfl (i_zip3 (by rfl) T.n_zip (a_cons (s_var rfl) (a_cons (s_var rfl) (a_cons (s_cut (s_var rfl) (o_some s_int) o_none) a_nil)))) (blkOk_by (N := ["scene", "said", "chain", "found", "left", "person", "before", "world", "linked"]) (sc := defScope s_is_path) (by decide +kernel)) (by decide) (fun s H C cl fp => (pgN3 rfl sc_is_path.nd rfl rfl rfl)) (fun s H C cl fp => ts_nil) (fun s H C cl fp => (s_cmp (ok_eq (hu64 hr)) (s_meth T.cl_Scene T.me_Scene_sees (ok_Scene_sees T) (hr.mono (by decide)) pz0 (s_var rfl) (a_cons (s_var rfl) (a_cons (s_var rfl) a_nil))) (s_meth T.cl_Scene T.me_Scene_sees (ok_Scene_sees T) (hr.mono (by decide)) pz0 (s_var rfl) (a_cons (s_var rfl) (a_cons (s_var rfl) a_nil))) (nomark _)))) (b_one (s_ret (s_and (s_cmp (ok_eq (hu64 hr)) (s_ixA (hu_of hr) (s_var rfl) s_int) (s_prop T.cl_Scene T.p_Scene_actual (ok_Scene_actual T) (hr.mono (by decide)) (s_var rfl)) (nomark _)) (s_and (s_callB (cr_all rfl) rd_all (by rfl) T.n_all (by decide +kernel) (a_cons (s_var rfl) a_nil)) (s_one (s_cmp (ok_ownNotIn T.o_Claim_contains.1 T.o_Claim_contains.2 (ok_Claim_contains T) (hr.mono (by decide)) (pz_of (takes_of rfl rfl rfl rfl))) (s_ixA (hu_of hr) (s_var rfl) (s_un ok_neg s_int)) (s_prop T.cl_Scene T.p_Scene_fact (ok_Scene_fact T) (hr.mono (by decide)) (s_var rfl)) (by rfl)))))))))))

def f_unmet_goals : Fd := runB 4 2 (sRet (eLc (iEnumA (aCons (eCall f_meets (aCons (eVar 0) (aCons (eVar 1) aNil))) aNil)) (.tup [2, 3]) (tNot (eTru (eVar 3))) (eVar 2) [2, 3]))
theorem sc_unmet_goals : FnScope ["scene", "said", "index", "met"] ["scene", "said"] (defScope s_unmet_goals) := ⟨rfl, rfl, rfl, by decide +kernel, rfl, by decide +kernel, by decide +kernel⟩
theorem ok_unmet_goals (T : Txt K mg Γ Φ Ψ) : FnF Γ P w K mg base 7 (Φ 49) f_unmet_goals := by
  obtain ⟨fd, hF, hb⟩ := T.F_unmet_goals
  refine fn_body hF sc_unmet_goals hb (by decide) fun cdv A outer s H E hr => ?_
  exact (b_one (s_ret (s_lc (own := [("index", 2), ("met", 3)]) rfl sc_unmet_goals.nd (i_enumA (by rfl) T.n_enumerate (a_cons (s_call (ok_meets T) (hr.mono (by decide)) (pz_of (takes_of rfl rfl rfl rfl)) (by rfl) T.m_meets T.kp_meets (a_cons (s_var rfl) (a_cons (s_var rfl) a_nil))) a_nil)) (blkOk_by (N := ["scene", "said", "index", "met"]) (sc := defScope s_unmet_goals) (by decide +kernel)) (by decide) (fun s H C cl fp => (pgN2 rfl sc_unmet_goals.nd rfl rfl)) (fun s H C cl fp => (ts_one (t_not (t_truth (s_var rfl))))) (fun s H C cl fp => (s_var rfl)))))

def f_Telling_init : Fd := runB 5 4 (bCons (sFldSet 2 "said" (eVar 1) (eVar 0)) (bCons (sFldSet 2 "reasons" (eCall opListU (aCons (eVar 2) aNil)) (eVar 0)) (sFldSet 2 "doubts" (eDcT (iKeysT (eVar 3)) (.slot 4) tYesD (eVar 4) (eBin opDGet (eVar 3) (eVar 4)) [4]) (eVar 0))))
theorem sc_Telling_init : FnScope ["self", "said", "reasons", "doubts", "one"] ["self", "said", "reasons", "doubts"] (defScope s_Telling_init) := ⟨rfl, rfl, rfl, by decide +kernel, rfl, by decide +kernel, by decide +kernel⟩
theorem ok_Telling_init (T : Txt K mg Γ Φ Ψ) : FnF Γ P w K mg base 1 (Φ 57) f_Telling_init := by
  obtain ⟨fd, hF, hb⟩ := T.F_Telling_init
  refine fn_body hF sc_Telling_init hb (by decide) fun cdv A outer s H E hr => ?_
  exact (b_cons (s_fldset T.cl_Telling T.a_Tellingsaid (s_var rfl) (s_var rfl)) (b_cons (s_fldset T.cl_Telling T.a_Tellingreasons (s_var rfl) (s_callIf (c := isDkL) (s_callTy (call_listD rfl) rd_listD (by rfl) T.n_list (by decide +kernel) (a_cons (s_var rfl) a_nil)) (s_callTy call_list_of rd_list (by rfl) T.n_list (by decide +kernel) (a_cons (s_var rfl) a_nil)))) (b_one (s_fldset T.cl_Telling T.a_Tellingdoubts (s_var rfl) (s_dcT hr.units0 (own := [("one", 4)]) rfl sc_Telling_init.nd (i_keysT (s_var rfl)) (blkOk_by (N := ["self", "said", "reasons", "doubts", "one"]) (sc := defScope s_Telling_init) (by decide +kernel)) (by decide) (fun s H C cl fp => (pgN (i := 4) sc_Telling_init.nd rfl)) (fun s H C cl fp => ts_nil) (fun s H C cl fp => (s_var rfl)) (fun s H C cl fp => (s_dget (hu_of hr) (s_var rfl) (s_var rfl) (by first | (intro _ _; with_unfolding_all rfl) | rfl | trivial))))))))

def f_is_proof : Fd := runB 5 5 (sTry exm_BadWorlds (bCons (sIf (eTru (eVar 3)) (sRet (eCall f_is_circle (aCons (eVar 0) (aCons (eVar 1) (aCons (eVar 2) (aCons (eVar 4) aNil)))))) bNil) (sRet (eCall f_is_path (aCons (eVar 0) (aCons (eVar 1) (aCons (eVar 2) (aCons (eVar 4) aNil))))))) (sRet (eC (.bl false))))
theorem sc_is_proof : FnScope ["scene", "said", "chain", "known", "found"] ["scene", "said", "chain", "known", "found"] (defScope s_is_proof) := ⟨rfl, rfl, rfl, by decide +kernel, rfl, by decide +kernel, by decide +kernel⟩
theorem ok_is_proof (T : Txt K mg Γ Φ Ψ) : FnF Γ P w K mg base 8 (Φ 77) f_is_proof := by
  obtain ⟨fd, hF, hb⟩ := T.F_is_proof
  refine fn_body hF sc_is_proof hb (by decide) fun cdv A outer s H E hr => ?_
  exact (b_one (s_try rfl rfl ⟨by rfl, by decide, .inl T.c_BadWorlds⟩ ((takes_of rfl rfl rfl rfl)) T.xm_BadWorlds (fun _ _ _ tk pp => (b_cons (s_if (t_truth (s_var rfl)) (b_one (s_ret (s_call (ok_is_circle T) (hr.mono (by decide)) (pz_of tk) (by rfl) T.m_is_circle T.kp_is_circle (a_cons (s_var rfl) (a_cons (s_var rfl) (a_cons (s_var rfl) (a_cons (s_var rfl) a_nil))))))) b_nil) (b_one (s_ret (s_call (ok_is_path T) (hr.mono (by decide)) (pz_of tk) (by rfl) T.m_is_path T.kp_is_path (a_cons (s_var rfl) (a_cons (s_var rfl) (a_cons (s_var rfl) (a_cons (s_var rfl) a_nil))))))))) (fun _ _ _ => (b_one (s_ret s_bl)))))

def f_is_doubt : Fd := runB 7 3 (bCons (sAsg (eVar 2) (gTup [(gSlot 3), (gSlot 4)])) (bCons (sIf (tNot (eTru (eCall f_is_number (aCons (eVar 3) (aCons (eC (.int 0)) (aCons (eBin opSub (eCall opLenU (aCons (eProp 1 f_Scene_goals (eVar 0)) aNil)) (eC (.int 1))) aNil)))))) (sRet (eC (.bl false))) bNil) (bCons (sAsg (eBin opIxA (eProp 1 f_Scene_goals (eVar 0)) (eVar 3)) (gTup [(gSlot 5), (gSlot 6)])) (sRet (eCall f_is_proof (aCons (eVar 0) (aCons (eVar 1) (aCons (eVar 5) (aCons (eNot (eVar 6)) (aCons (eVar 4) aNil))))))))))
theorem sc_is_doubt : FnScope ["scene", "said", "doubt", "index", "found", "chain", "wanted"] ["scene", "said", "doubt"] (defScope s_is_doubt) := ⟨rfl, rfl, rfl, by decide +kernel, rfl, by decide +kernel, by decide +kernel⟩
theorem ok_is_doubt (T : Txt K mg Γ Φ Ψ) : FnF Γ P w K mg base 9 (Φ 76) f_is_doubt := by
  obtain ⟨fd, hF, hb⟩ := T.F_is_doubt
  refine fn_body hF sc_is_doubt hb (by decide) fun cdv A outer s H E hr => ?_
  exact (b_cons (s_asg (s_var rfl) (g_tup rfl (gs_cons (g_slot sc_is_doubt.nd rfl) (gs_cons (g_slot sc_is_doubt.nd rfl) gs_nil)))) (b_cons (s_if (t_not (t_truth (s_call (ok_is_number T) (hr.mono (by decide)) (pz_of (takes_of rfl rfl rfl rfl)) (by rfl) T.m_is_number T.kp_is_number (a_cons (s_var rfl) (a_cons s_int (a_cons (s_bin ok_sub (s_callIf (c := isDkL) (s_callB call_lenRd rd_lenDk (by rfl) T.n_len (by decide +kernel) (a_cons (s_prop T.cl_Scene T.p_Scene_goals (ok_Scene_goals T) (hr.mono (by decide)) (s_var rfl)) a_nil)) (s_callB call_len3 rd_len (by rfl) T.n_len (by decide +kernel) (a_cons (s_prop T.cl_Scene T.p_Scene_goals (ok_Scene_goals T) (hr.mono (by decide)) (s_var rfl)) a_nil))) s_int) a_nil)))))) (b_one (s_ret s_bl)) b_nil) (b_cons (s_asg (s_ixA (hu_of hr) (s_prop T.cl_Scene T.p_Scene_goals (ok_Scene_goals T) (hr.mono (by decide)) (s_var rfl)) (s_var rfl)) (g_tup rfl (gs_cons (g_slot sc_is_doubt.nd rfl) (gs_cons (g_slot sc_is_doubt.nd rfl) gs_nil)))) (b_one (s_ret (s_call (ok_is_proof T) (hr.mono (by decide)) (pz_of (takes_of rfl rfl rfl rfl)) (by rfl) T.m_is_proof T.kp_is_proof (a_cons (s_var rfl) (a_cons (s_var rfl) (a_cons (s_var rfl) (a_cons (s_not (s_var rfl)) (a_cons (s_var rfl) a_nil)))))))))))

def f_are_doubts : Fd := runB 5 3 (bCons (sAsg (eLc (iAny (eVar 1)) (.slot 3) tYesD (eAnd (eBin opDIn (eVar 3) (eVar 2)) (eCall f_is_doubt (aCons (eVar 0) (aCons (eVar 3) (aCons (eBin opDGet (eVar 2) (eVar 3)) aNil))))) [3]) (gSlot 4)) (sRet (eAnd (eBin opEq (eCall opLenT (aCons (eVar 2) aNil)) (eCall opLenU (aCons (eVar 1) aNil))) (eCall opAll (aCons (eVar 4) aNil)))))
theorem sc_are_doubts : FnScope ["scene", "sets", "doubts", "said", "shown"] ["scene", "sets", "doubts"] (defScope s_are_doubts) := ⟨rfl, rfl, rfl, by decide +kernel, rfl, by decide +kernel, by decide +kernel⟩
theorem ok_are_doubts (T : Txt K mg Γ Φ Ψ) : FnF Γ P w K mg base 10 (Φ 75) f_are_doubts := by
  obtain ⟨fd, hF, hb⟩ := T.F_are_doubts
  refine fn_body hF sc_are_doubts hb (by decide) fun cdv A outer s H E hr => ?_
  exact (b_cons (s_setLc (own := [("said", 3)]) rfl sc_are_doubts.nd rfl rfl (i_any (s_var rfl)) (blkOk_by (N := ["scene", "sets", "doubts", "said", "shown"]) (sc := defScope s_are_doubts) (by decide +kernel)) (by decide) (fun s H C cl fp => (pgN (i := 3) sc_are_doubts.nd rfl)) (fun s H C cl fp => ts_nil) (fun s H C cl fp => (s_and (s_din (hu_of hr) (s_var rfl) (s_var rfl)) (s_one (s_call (ok_is_doubt T) (hr.mono (by decide)) pz0 (by rfl) T.m_is_doubt T.kp_is_doubt (a_cons (s_var rfl) (a_cons (s_var rfl) (a_cons (s_dget (hu_of hr) (s_var rfl) (s_var rfl) (by first | (intro _ _; with_unfolding_all rfl) | rfl | trivial)) a_nil)))))))) (b_one (s_ret (s_and (s_cmp (ok_eq (hu64 hr)) (s_callB call_len_rdT rd_lenT (by rfl) T.n_len (by decide +kernel) (a_cons (s_var rfl) a_nil)) (s_callIf (c := isDkL) (s_callB call_lenRd rd_lenDk (by rfl) T.n_len (by decide +kernel) (a_cons (s_var rfl) a_nil)) (s_callB call_len3 rd_len (by rfl) T.n_len (by decide +kernel) (a_cons (s_var rfl) a_nil))) (nomark _)) (s_one (s_callB (cr_all rfl) rd_all (by rfl) T.n_all (by decide +kernel) (a_cons (s_var rfl) a_nil)))))))

def f_are_reasons : Fd := runB 8 3 (bCons (sAsg (eProp 1 f_Scene_goals (eVar 0)) (gSlot 3)) (bCons (sAsg (eLcT (iZip (aCons (eVar 3) (aCons (eVar 2) aNil))) (patN [4, 5] 6) tYesD (eCall f_is_proof (aCons (eVar 0) (aCons (eVar 1) (aCons (eVar 4) (aCons (eVar 5) (aCons (eVar 6) aNil)))))) [4, 5, 6]) (gSlot 7)) (sRet (eAnd (eBin opEq (eCall opLenU (aCons (eVar 2) aNil)) (eCall opLenU (aCons (eVar 3) aNil))) (eCall opAll (aCons (eVar 7) aNil))))))
theorem sc_are_reasons : FnScope ["scene", "said", "reasons", "goals", "chain", "wanted", "found", "shown"] ["scene", "said", "reasons"] (defScope s_are_reasons) := ⟨rfl, rfl, rfl, by decide +kernel, rfl, by decide +kernel, by decide +kernel⟩
theorem ok_are_reasons (T : Txt K mg Γ Φ Ψ) : FnF Γ P w K mg base 9 (Φ 74) f_are_reasons := by
  obtain ⟨fd, hF, hb⟩ := T.F_are_reasons
  refine fn_body hF sc_are_reasons hb (by decide) fun cdv A outer s H E hr => ?_
  exact (b_cons (s_set sc_are_reasons.nd rfl (s_prop T.cl_Scene T.p_Scene_goals (ok_Scene_goals T) (hr.mono (by decide)) (s_var rfl))) (b_cons (s_setLcT (own := [("chain", 4), ("wanted", 5), ("found", 6)]) rfl sc_are_reasons.nd rfl rfl (i_zip (by rfl) T.n_zip (a_cons (s_var rfl) (a_cons (s_var rfl) a_nil))) (blkOk_by (N := ["scene", "said", "reasons", "goals", "chain", "wanted", "found", "shown"]) (sc := defScope s_are_reasons) (by decide +kernel)) (tg_nest _ (by decide) (by decide)) (fun s H C cl fp => (pgNest rfl sc_are_reasons.nd rfl rfl rfl)) (fun s H C cl fp => ts_nil) (fun s H C cl fp => (s_call (ok_is_proof T) (hr.mono (by decide)) pz0 (by rfl) T.m_is_proof T.kp_is_proof (a_cons (s_var rfl) (a_cons (s_var rfl) (a_cons (s_var rfl) (a_cons (s_var rfl) (a_cons (s_var rfl) a_nil)))))))) (b_one (s_ret (s_and (s_cmp (ok_eq (hu64 hr)) (s_callIf (c := isDkL) (s_callB call_lenRd rd_lenDk (by rfl) T.n_len (by decide +kernel) (a_cons (s_var rfl) a_nil)) (s_callB call_len3 rd_len (by rfl) T.n_len (by decide +kernel) (a_cons (s_var rfl) a_nil))) (s_callIf (c := isDkL) (s_callB call_lenRd rd_lenDk (by rfl) T.n_len (by decide +kernel) (a_cons (s_var rfl) a_nil)) (s_callB call_len3 rd_len (by rfl) T.n_len (by decide +kernel) (a_cons (s_var rfl) a_nil))) (nomark _)) (s_one (s_callB (cr_all rfl) rd_all (by rfl) T.n_all (by decide +kernel) (a_cons (s_var rfl) a_nil))))))))

def fr_sets_of : Nat → Fd
  | 0 => runB 4 2 sNever
  | n + 1 => runB 4 2 (bCons (sIf (tBin opEq (eVar 1) (eC (.int 0))) (sRet (eLst (aCons (eTup aNil) aNil))) bNil) (sRet (eLc2 (iRange1 (aCons (eCall opLenU (aCons (eVar 0) aNil)) aNil)) (.slot 2) tYesD (iAny (eCall (fr_sets_of n) (aCons (eCut (eVar 0) (oSome (eBin opAdd (eVar 2) (eC (.int 1)))) oNone) (aCons (eBin opSub (eVar 1) (eC (.int 1))) aNil)))) (.slot 3) tYesD (eTup (aCons (eBin opIxA (eVar 0) (eVar 2)) (aStar (eVar 3) aNil))) [2, 3] [3])))
def f_sets_of : Fd := fr_sets_of 8
theorem sc_sets_of : FnScope ["names", "size", "k", "rest"] ["names", "size"] (defScope s_sets_of) := ⟨rfl, rfl, rfl, by decide +kernel, rfl, by decide +kernel, by decide +kernel⟩
theorem okr_sets_of (T : Txt K mg Γ Φ Ψ) : ∀ n : Nat, FnF Γ P w K mg base (n + 1) (Φ 69) (fr_sets_of n)
  | 0 => by
    obtain ⟨fd, hF, hb⟩ := T.F_sets_of
    exact fn_body (k := 0) hF sc_sets_of hb (by decide) fun cdv A outer s H E hr => b_never
  | n + 1 => by
    obtain ⟨fd, hF, hb⟩ := T.F_sets_of
    have ih := okr_sets_of T n
    refine fn_body (k := n + 1 + 0) hF sc_sets_of hb (by decide) fun cdv A outer s H E hr => ?_
    exact (b_cons (s_if (t_cmp (ok_eq (hu64 hr)) (s_var rfl) s_int (nomark _)) (b_one (s_ret (s_lst (a_cons (s_tup a_nil) a_nil)))) b_nil) (b_one (s_ret (s_lc2 (own := [("k", 2), ("rest", 3)]) rfl sc_sets_of.nd (i_range1 (by rfl) T.n_range (a_cons (s_callIf (c := isDkL) (s_callB call_lenRd rd_lenDk (by rfl) T.n_len (by decide +kernel) (a_cons (s_var rfl) a_nil)) (s_callB call_len3 rd_len (by rfl) T.n_len (by decide +kernel) (a_cons (s_var rfl) a_nil))) a_nil)) (blkOk_by (N := ["names", "size", "k", "rest"]) (sc := defScope s_sets_of) (by decide +kernel)) (by decide) (by decide) (by decide) (fun s H C cl fp => (pgN (i := 2) sc_sets_of.nd rfl)) (fun s H C cl fp => ts_nil) (fun s H C cl fp => (i_any (s_call ih (hr.mono (by omega)) pz0 (by rfl) T.m_sets_of T.kp_sets_of (a_cons (s_cut (s_var rfl) (o_some (s_bin ok_add (s_var rfl) s_int)) o_none) (a_cons (s_bin ok_sub (s_var rfl) s_int) a_nil))))) (fun s H C cl fp => (pgN (i := 3) sc_sets_of.nd rfl)) (fun s H C cl fp => ts_nil) (fun s H C cl fp => (s_tup (a_cons (s_ixA (hu_of hr) (s_var rfl) (s_var rfl)) (a_star (s_var rfl) a_nil))))))))
theorem ok_sets_of (T : Txt K mg Γ Φ Ψ) : FnF Γ P w K mg base 9 (Φ 69) f_sets_of := okr_sets_of T 8

def f_all_sets : Fd := runB 4 1 (bCons (sAsg (eProp 1 f_Scene_names (eVar 0)) (gSlot 1)) (sRet (eLc2 (iRange1 (aCons (eBin opAdd (eCall opLenU (aCons (eVar 1) aNil)) (eC (.int 1))) aNil)) (.slot 2) tYesD (iAny (eCall f_sets_of (aCons (eVar 1) (aCons (eVar 2) aNil)))) (.slot 3) tYesD (eVar 3) [2, 3] [3])))
theorem sc_all_sets : FnScope ["scene", "names", "size", "said"] ["scene"] (defScope s_all_sets) := ⟨rfl, rfl, rfl, by decide +kernel, rfl, by decide +kernel, by decide +kernel⟩
theorem ok_all_sets (T : Txt K mg Γ Φ Ψ) : FnF Γ P w K mg base 10 (Φ 68) f_all_sets := by
  obtain ⟨fd, hF, hb⟩ := T.F_all_sets
  refine fn_body hF sc_all_sets hb (by decide) fun cdv A outer s H E hr => ?_
  exact (b_cons (s_set sc_all_sets.nd rfl (s_prop T.cl_Scene T.p_Scene_names (ok_Scene_names T) (hr.mono (by decide)) (s_var rfl))) (b_one (s_ret (s_lc2 (own := [("size", 2), ("said", 3)]) rfl sc_all_sets.nd (i_range1 (by rfl) T.n_range (a_cons (s_bin ok_add (s_callIf (c := isDkL) (s_callB call_lenRd rd_lenDk (by rfl) T.n_len (by decide +kernel) (a_cons (s_var rfl) a_nil)) (s_callB call_len3 rd_len (by rfl) T.n_len (by decide +kernel) (a_cons (s_var rfl) a_nil))) s_int) a_nil)) (blkOk_by (N := ["scene", "names", "size", "said"]) (sc := defScope s_all_sets) (by decide +kernel)) (by decide) (by decide) (by decide) (fun s H C cl fp => (pgN (i := 2) sc_all_sets.nd rfl)) (fun s H C cl fp => ts_nil) (fun s H C cl fp => (i_any (s_call (ok_sets_of T) (hr.mono (by decide)) pz0 (by rfl) T.m_sets_of T.kp_sets_of (a_cons (s_var rfl) (a_cons (s_var rfl) a_nil))))) (fun s H C cl fp => (pgN (i := 3) sc_all_sets.nd rfl)) (fun s H C cl fp => ts_nil) (fun s H C cl fp => (s_var rfl))))))

def f_set_cost : Fd := runB 3 2 (bCons (sExpr (eCall f_check_scene (aCons (eVar 0) aNil))) (bCons (sExpr (eMeth 1 "check_set" f_Scene_check_set (eVar 0) (aCons (eVar 1) aNil))) (sRet (eCall opSum (aCons (eLc (iAny (eVar 1)) (.slot 2) tYesD (eMeth 1 "cost" f_Scene_cost (eVar 0) (aCons (eVar 2) aNil)) [2]) aNil)))))
theorem sc_set_cost : FnScope ["scene", "said", "name"] ["scene", "said"] (defScope s_set_cost) := ⟨rfl, rfl, rfl, by decide +kernel, rfl, by decide +kernel, by decide +kernel⟩
theorem ok_set_cost (T : Txt K mg Γ Φ Ψ) : FnF Γ P w K mg base 4 (Φ 67) f_set_cost := by
  obtain ⟨fd, hF, hb⟩ := T.F_set_cost
  refine fn_body hF sc_set_cost hb (by decide) fun cdv A outer s H E hr => ?_
  exact (b_cons (s_expr (s_call (ok_check_scene T) (hr.mono (by decide)) (pz_of (takes_of rfl rfl rfl rfl)) (by rfl) T.m_check_scene T.kp_check_scene (a_cons (s_var rfl) a_nil))) (b_cons (s_expr (s_meth T.cl_Scene T.me_Scene_check_set (ok_Scene_check_set T) (hr.mono (by decide)) (pz_of (takes_of rfl rfl rfl rfl)) (s_var rfl) (a_cons (s_var rfl) a_nil))) (b_one (s_ret (s_callB (cr_sum rfl) rd_sum (by rfl) T.n_sum (by decide +kernel) (a_cons (s_lc (own := [("name", 2)]) rfl sc_set_cost.nd (i_any (s_var rfl)) (blkOk_by (N := ["scene", "said", "name"]) (sc := defScope s_set_cost) (by decide +kernel)) (by decide) (fun s H C cl fp => (pgN (i := 2) sc_set_cost.nd rfl)) (fun s H C cl fp => ts_nil) (fun s H C cl fp => (s_meth T.cl_Scene T.me_Scene_cost (ok_Scene_cost T) (hr.mono (by decide)) pz0 (s_var rfl) (a_cons (s_var rfl) a_nil)))) a_nil))))))

def f_cheaper_sets : Fd := runB 3 2 (sRet (eLc (iAny (eCall f_all_sets (aCons (eVar 0) aNil))) (.slot 2) (tBin opLt (eCall f_set_cost (aCons (eVar 0) (aCons (eVar 2) aNil))) (eVar 1)) (eVar 2) [2]))
theorem sc_cheaper_sets : FnScope ["scene", "cost", "said"] ["scene", "cost"] (defScope s_cheaper_sets) := ⟨rfl, rfl, rfl, by decide +kernel, rfl, by decide +kernel, by decide +kernel⟩
theorem ok_cheaper_sets (T : Txt K mg Γ Φ Ψ) : FnF Γ P w K mg base 11 (Φ 70) f_cheaper_sets := by
  obtain ⟨fd, hF, hb⟩ := T.F_cheaper_sets
  refine fn_body hF sc_cheaper_sets hb (by decide) fun cdv A outer s H E hr => ?_
  exact (b_one (s_ret (s_lc (own := [("said", 2)]) rfl sc_cheaper_sets.nd (i_any (s_call (ok_all_sets T) (hr.mono (by decide)) (pz_of (takes_of rfl rfl rfl rfl)) (by rfl) T.m_all_sets T.kp_all_sets (a_cons (s_var rfl) a_nil))) (blkOk_by (N := ["scene", "cost", "said"]) (sc := defScope s_cheaper_sets) (by decide +kernel)) (by decide) (fun s H C cl fp => (pgN (i := 2) sc_cheaper_sets.nd rfl)) (fun s H C cl fp => (ts_one (t_cmp ok_lt (s_call (ok_set_cost T) (hr.mono (by decide)) pz0 (by rfl) T.m_set_cost T.kp_set_cost (a_cons (s_var rfl) (a_cons (s_var rfl) a_nil))) (s_var rfl) (nomark _)))) (fun s H C cl fp => (s_var rfl)))))

def f_Telling_shows : Fd := runB 3 2 (bCons (sExpr (eCall f_check_scene (aCons (eVar 1) aNil))) (bCons (sAsg (eCall f_cheaper_sets (aCons (eVar 1) (aCons (eCall f_set_cost (aCons (eVar 1) (aCons (eUn (opFld 2 "said") (eVar 0)) aNil))) aNil))) (gSlot 2)) (sRet (eAnd (eCall f_are_reasons (aCons (eVar 1) (aCons (eUn (opFld 2 "said") (eVar 0)) (aCons (eUn (opFld 2 "reasons") (eVar 0)) aNil)))) (eCall f_are_doubts (aCons (eVar 1) (aCons (eVar 2) (aCons (eUn (opFld 2 "doubts") (eVar 0)) aNil))))))))
theorem sc_Telling_shows : FnScope ["self", "scene", "cheaper"] ["self", "scene"] (defScope s_Telling_shows) := ⟨rfl, rfl, rfl, by decide +kernel, rfl, by decide +kernel, by decide +kernel⟩
theorem ok_Telling_shows (T : Txt K mg Γ Φ Ψ) : FnF Γ P w K mg base 12 (Φ 58) f_Telling_shows := by
  obtain ⟨fd, hF, hb⟩ := T.F_Telling_shows
  refine fn_body hF sc_Telling_shows hb (by decide) fun cdv A outer s H E hr => ?_
  exact (b_cons (s_expr (s_call (ok_check_scene T) (hr.mono (by decide)) (pz_of (takes_of rfl rfl rfl rfl)) (by rfl) T.m_check_scene T.kp_check_scene (a_cons (s_var rfl) a_nil))) (b_cons (s_set sc_Telling_shows.nd rfl (s_call (ok_cheaper_sets T) (hr.mono (by decide)) (pz_of (takes_of rfl rfl rfl rfl)) (by rfl) T.m_cheaper_sets T.kp_cheaper_sets (a_cons (s_var rfl) (a_cons (s_call (ok_set_cost T) (hr.mono (by decide)) (pz_of (takes_of rfl rfl rfl rfl)) (by rfl) T.m_set_cost T.kp_set_cost (a_cons (s_var rfl) (a_cons (s_fld T.cl_Telling T.a_Tellingsaid (s_var rfl)) a_nil))) a_nil)))) (b_one (s_ret (s_and (s_call (ok_are_reasons T) (hr.mono (by decide)) (pz_of (takes_of rfl rfl rfl rfl)) (by rfl) T.m_are_reasons T.kp_are_reasons (a_cons (s_var rfl) (a_cons (s_fld T.cl_Telling T.a_Tellingsaid (s_var rfl)) (a_cons (s_fld T.cl_Telling T.a_Tellingreasons (s_var rfl)) a_nil)))) (s_one (s_call (ok_are_doubts T) (hr.mono (by decide)) (pz_of (takes_of rfl rfl rfl rfl)) (by rfl) T.m_are_doubts T.kp_are_doubts (a_cons (s_var rfl) (a_cons (s_var rfl) (a_cons (s_fld T.cl_Telling T.a_Tellingdoubts (s_var rfl)) a_nil))))))))))

def f_Telling_eq : Fd := runB 2 2 (sRet (eAnd (eCall (opIsi ownC kt) (aCons (eVar 1) (aCons (eC (.gl 2)) aNil))) (eAnd (eBin opEq (eUn (opFld 2 "said") (eVar 0)) (eUn (opFld 2 "said") (eVar 1))) (eAnd (eBin opEq (eUn (opFld 2 "reasons") (eVar 0)) (eUn (opFld 2 "reasons") (eVar 1))) (eBin opEq (eUn (opFld 2 "doubts") (eVar 0)) (eUn (opFld 2 "doubts") (eVar 1)))))))
theorem sc_Telling_eq : FnScope ["self", "other"] ["self", "other"] (defScope s_Telling_eq) := ⟨rfl, rfl, rfl, by decide +kernel, rfl, by decide +kernel, by decide +kernel⟩
theorem ok_Telling_eq (T : Txt K mg Γ Φ Ψ) : FnF Γ P w K mg base 1 (Φ 59) f_Telling_eq := by
  obtain ⟨fd, hF, hb⟩ := T.F_Telling_eq
  refine fn_body hF sc_Telling_eq hb (by decide) fun cdv A outer s H E hr => ?_
  exact (b_one (s_ret (s_and (s_callB call_isi (rd_isi T.isi T.kt_ok) (by rfl) T.n_isinstance (by decide +kernel) (a_cons (s_var rfl) (a_cons (s_glob (by rfl) T.c_Telling) a_nil))) (s_and (s_cmp (ok_eq (hu64 hr)) (s_fld T.cl_Telling T.a_Tellingsaid (s_var rfl)) (s_fld T.cl_Telling T.a_Tellingsaid (s_var rfl)) (nomark _)) (s_and (s_cmp (ok_eq (hu64 hr)) (s_fld T.cl_Telling T.a_Tellingreasons (s_var rfl)) (s_fld T.cl_Telling T.a_Tellingreasons (s_var rfl)) (nomark _)) (s_one (s_cmp (ok_eq (hu64 hr)) (s_fld T.cl_Telling T.a_Tellingdoubts (s_var rfl)) (s_fld T.cl_Telling T.a_Tellingdoubts (s_var rfl)) (nomark _))))))))

def f_NoTelling_init : Fd := runB 3 2 (sFldSet 3 "doubts" (eDcT (iKeysT (eVar 1)) (.slot 2) tYesD (eVar 2) (eBin opDGet (eVar 1) (eVar 2)) [2]) (eVar 0))
theorem sc_NoTelling_init : FnScope ["self", "doubts", "one"] ["self", "doubts"] (defScope s_NoTelling_init) := ⟨rfl, rfl, rfl, by decide +kernel, rfl, by decide +kernel, by decide +kernel⟩
theorem ok_NoTelling_init (T : Txt K mg Γ Φ Ψ) : FnF Γ P w K mg base 1 (Φ 60) f_NoTelling_init := by
  obtain ⟨fd, hF, hb⟩ := T.F_NoTelling_init
  refine fn_body hF sc_NoTelling_init hb (by decide) fun cdv A outer s H E hr => ?_
  exact (b_one (s_fldset T.cl_NoTelling T.a_NoTellingdoubts (s_var rfl) (s_dcT hr.units0 (own := [("one", 2)]) rfl sc_NoTelling_init.nd (i_keysT (s_var rfl)) (blkOk_by (N := ["self", "doubts", "one"]) (sc := defScope s_NoTelling_init) (by decide +kernel)) (by decide) (fun s H C cl fp => (pgN (i := 2) sc_NoTelling_init.nd rfl)) (fun s H C cl fp => ts_nil) (fun s H C cl fp => (s_var rfl)) (fun s H C cl fp => (s_dget (hu_of hr) (s_var rfl) (s_var rfl) (by first | (intro _ _; with_unfolding_all rfl) | rfl | trivial))))))

def f_NoTelling_shows : Fd := runB 2 2 (bCons (sExpr (eCall f_check_scene (aCons (eVar 1) aNil))) (sRet (eCall f_are_doubts (aCons (eVar 1) (aCons (eCall f_all_sets (aCons (eVar 1) aNil)) (aCons (eUn (opFld 3 "doubts") (eVar 0)) aNil))))))
theorem sc_NoTelling_shows : FnScope ["self", "scene"] ["self", "scene"] (defScope s_NoTelling_shows) := ⟨rfl, rfl, rfl, by decide +kernel, rfl, by decide +kernel, by decide +kernel⟩
theorem ok_NoTelling_shows (T : Txt K mg Γ Φ Ψ) : FnF Γ P w K mg base 11 (Φ 61) f_NoTelling_shows := by
  obtain ⟨fd, hF, hb⟩ := T.F_NoTelling_shows
  refine fn_body hF sc_NoTelling_shows hb (by decide) fun cdv A outer s H E hr => ?_
  exact (b_cons (s_expr (s_call (ok_check_scene T) (hr.mono (by decide)) (pz_of (takes_of rfl rfl rfl rfl)) (by rfl) T.m_check_scene T.kp_check_scene (a_cons (s_var rfl) a_nil))) (b_one (s_ret (s_call (ok_are_doubts T) (hr.mono (by decide)) (pz_of (takes_of rfl rfl rfl rfl)) (by rfl) T.m_are_doubts T.kp_are_doubts (a_cons (s_var rfl) (a_cons (s_call (ok_all_sets T) (hr.mono (by decide)) (pz_of (takes_of rfl rfl rfl rfl)) (by rfl) T.m_all_sets T.kp_all_sets (a_cons (s_var rfl) a_nil)) (a_cons (s_fld T.cl_NoTelling T.a_NoTellingdoubts (s_var rfl)) a_nil)))))))

def f_NoTelling_eq : Fd := runB 2 2 (sRet (eAnd (eCall (opIsi ownC kt) (aCons (eVar 1) (aCons (eC (.gl 3)) aNil))) (eBin opEq (eUn (opFld 3 "doubts") (eVar 0)) (eUn (opFld 3 "doubts") (eVar 1)))))
theorem sc_NoTelling_eq : FnScope ["self", "other"] ["self", "other"] (defScope s_NoTelling_eq) := ⟨rfl, rfl, rfl, by decide +kernel, rfl, by decide +kernel, by decide +kernel⟩
theorem ok_NoTelling_eq (T : Txt K mg Γ Φ Ψ) : FnF Γ P w K mg base 1 (Φ 62) f_NoTelling_eq := by
  obtain ⟨fd, hF, hb⟩ := T.F_NoTelling_eq
  refine fn_body hF sc_NoTelling_eq hb (by decide) fun cdv A outer s H E hr => ?_
  exact (b_one (s_ret (s_and (s_callB call_isi (rd_isi T.isi T.kt_ok) (by rfl) T.n_isinstance (by decide +kernel) (a_cons (s_var rfl) (a_cons (s_glob (by rfl) T.c_NoTelling) a_nil))) (s_one (s_cmp (ok_eq (hu64 hr)) (s_fld T.cl_NoTelling T.a_NoTellingdoubts (s_var rfl)) (s_fld T.cl_NoTelling T.a_NoTellingdoubts (s_var rfl)) (nomark _))))))

def f_doubt_about : Fd := runB 5 2 (bCons (sAsg (eBin opIxA (eCall f_unmet_goals (aCons (eVar 0) (aCons (eVar 1) aNil))) (eC (.int 0))) (gSlot 2)) (bCons (sAsg (eBin opIxA (eProp 1 f_Scene_goals (eVar 0)) (eVar 2)) (gTup [(gSlot 3), (gSlot 4)])) (sRet (eTup (aCons (eVar 2) (aCons (eCall f_evidence (aCons (eVar 0) (aCons (eVar 1) (aCons (eVar 3) aNil)))) aNil))))))
theorem sc_doubt_about : FnScope ["scene", "said", "index", "chain", "_"] ["scene", "said"] (defScope s_doubt_about) := ⟨rfl, rfl, rfl, by decide +kernel, rfl, by decide +kernel, by decide +kernel⟩
theorem ok_doubt_about (T : Txt K mg Γ Φ Ψ) : FnF Γ P w K mg base 8 (Φ 73) f_doubt_about := by
  obtain ⟨fd, hF, hb⟩ := T.F_doubt_about
  refine fn_body hF sc_doubt_about hb (by decide) fun cdv A outer s H E hr => ?_
  exact (b_cons (s_set sc_doubt_about.nd rfl (s_ixA (hu_of hr) (s_call (ok_unmet_goals T) (hr.mono (by decide)) (pz_of (takes_of rfl rfl rfl rfl)) (by rfl) T.m_unmet_goals T.kp_unmet_goals (a_cons (s_var rfl) (a_cons (s_var rfl) a_nil))) s_int)) (b_cons (s_asg (s_ixA (hu_of hr) (s_prop T.cl_Scene T.p_Scene_goals (ok_Scene_goals T) (hr.mono (by decide)) (s_var rfl)) (s_var rfl)) (g_tup rfl (gs_cons (g_slot sc_doubt_about.nd rfl) (gs_cons (g_slot sc_doubt_about.nd rfl) gs_nil)))) (b_one (s_ret (s_tup (a_cons (s_var rfl) (a_cons (s_call (ok_evidence T) (hr.mono (by decide)) (pz_of (takes_of rfl rfl rfl rfl)) (by rfl) T.m_evidence T.kp_evidence (a_cons (s_var rfl) (a_cons (s_var rfl) (a_cons (s_var rfl) a_nil)))) a_nil)))))))

def f_doubts_about : Fd := runB 3 2 (sRet (eDcT (iAny (eVar 1)) (.slot 2) tYesD (eVar 2) (eCall f_doubt_about (aCons (eVar 0) (aCons (eVar 2) aNil))) [2]))
theorem sc_doubts_about : FnScope ["scene", "sets", "said"] ["scene", "sets"] (defScope s_doubts_about) := ⟨rfl, rfl, rfl, by decide +kernel, rfl, by decide +kernel, by decide +kernel⟩
theorem ok_doubts_about (T : Txt K mg Γ Φ Ψ) : FnF Γ P w K mg base 9 (Φ 72) f_doubts_about := by
  obtain ⟨fd, hF, hb⟩ := T.F_doubts_about
  refine fn_body hF sc_doubts_about hb (by decide) fun cdv A outer s H E hr => ?_
  exact (b_one (s_ret (s_dcT hr.units0 (own := [("said", 2)]) rfl sc_doubts_about.nd (i_any (s_var rfl)) (blkOk_by (N := ["scene", "sets", "said"]) (sc := defScope s_doubts_about) (by decide +kernel)) (by decide) (fun s H C cl fp => (pgN (i := 2) sc_doubts_about.nd rfl)) (fun s H C cl fp => ts_nil) (fun s H C cl fp => (s_var rfl)) (fun s H C cl fp => (s_call (ok_doubt_about T) (hr.mono (by decide)) pz0 (by rfl) T.m_doubt_about T.kp_doubt_about (a_cons (s_var rfl) (a_cons (s_var rfl) a_nil)))))))

def f_good_sets : Fd := runB 2 1 (bCons (sExpr (eCall f_check_scene (aCons (eVar 0) aNil))) (sRet (eLc (iAny (eCall f_all_sets (aCons (eVar 0) aNil))) (.slot 1) (tBin opEq (eCall opLenU (aCons (eCall f_unmet_goals (aCons (eVar 0) (aCons (eVar 1) aNil))) aNil)) (eC (.int 0))) (eVar 1) [1])))
theorem sc_good_sets : FnScope ["scene", "said"] ["scene"] (defScope s_good_sets) := ⟨rfl, rfl, rfl, by decide +kernel, rfl, by decide +kernel, by decide +kernel⟩
theorem ok_good_sets (T : Txt K mg Γ Φ Ψ) : FnF Γ P w K mg base 11 (Φ 64) f_good_sets := by
  obtain ⟨fd, hF, hb⟩ := T.F_good_sets
  refine fn_body hF sc_good_sets hb (by decide) fun cdv A outer s H E hr => ?_
  exact (b_cons (s_expr (s_call (ok_check_scene T) (hr.mono (by decide)) (pz_of (takes_of rfl rfl rfl rfl)) (by rfl) T.m_check_scene T.kp_check_scene (a_cons (s_var rfl) a_nil))) (b_one (s_ret (s_lc (own := [("said", 1)]) rfl sc_good_sets.nd (i_any (s_call (ok_all_sets T) (hr.mono (by decide)) (pz_of (takes_of rfl rfl rfl rfl)) (by rfl) T.m_all_sets T.kp_all_sets (a_cons (s_var rfl) a_nil))) (blkOk_by (N := ["scene", "said"]) (sc := defScope s_good_sets) (by decide +kernel)) (by decide) (fun s H C cl fp => (pgN (i := 1) sc_good_sets.nd rfl)) (fun s H C cl fp => (ts_one (t_cmp (ok_eq (hu64 hr)) (s_callIf (c := isDkL) (s_callB call_lenRd rd_lenDk (by rfl) T.n_len (by decide +kernel) (a_cons (s_call (ok_unmet_goals T) (hr.mono (by decide)) pz0 (by rfl) T.m_unmet_goals T.kp_unmet_goals (a_cons (s_var rfl) (a_cons (s_var rfl) a_nil))) a_nil)) (s_callB call_len3 rd_len (by rfl) T.n_len (by decide +kernel) (a_cons (s_call (ok_unmet_goals T) (hr.mono (by decide)) pz0 (by rfl) T.m_unmet_goals T.kp_unmet_goals (a_cons (s_var rfl) (a_cons (s_var rfl) a_nil))) a_nil))) s_int (nomark _)))) (fun s H C cl fp => (s_var rfl))))))

def f_cheapest : Fd := runB 8 1 (bCons (sAsg (eCall f_good_sets (aCons (eVar 0) aNil)) (gSlot 1)) (bCons (sIf (tBin opEq (eCall opLenU (aCons (eVar 1) aNil)) (eC (.int 0))) (sRet (eFz (eCall (mkC 3 f_NoTelling_init) (aCons (eCall f_doubts_about (aCons (eVar 0) (aCons (eCall f_all_sets (aCons (eVar 0) aNil)) aNil))) aNil)))) bNil) (bCons (sAsg (eCall opMinL (aCons (eLc (iAny (eVar 1)) (.slot 2) tYesD (eCall f_set_cost (aCons (eVar 0) (aCons (eVar 2) aNil))) [2]) aNil)) (gSlot 3)) (bCons (sAsg (eBin opIxA (eLc (iAny (eVar 1)) (.slot 2) (tBin opEq (eCall f_set_cost (aCons (eVar 0) (aCons (eVar 2) aNil))) (eVar 3)) (eVar 2) [2]) (eC (.int 0))) (gSlot 4)) (bCons (sAsg (eLc (iAny (eProp 1 f_Scene_goals (eVar 0))) (.tup [5, 6]) tYesD (eCall f_evidence (aCons (eVar 0) (aCons (eVar 4) (aCons (eVar 5) aNil)))) [5, 6]) (gSlot 7)) (sRet (eFz (eCall (mkC 2 f_Telling_init) (aCons (eVar 4) (aCons (eVar 7) (aCons (eCall f_doubts_about (aCons (eVar 0) (aCons (eCall f_cheaper_sets (aCons (eVar 0) (aCons (eVar 3) aNil))) aNil))) aNil)))))))))))
theorem sc_cheapest : FnScope ["scene", "good", "said", "least", "first", "chain", "_", "reasons"] ["scene"] (defScope s_cheapest) := ⟨rfl, rfl, rfl, by decide +kernel, rfl, by decide +kernel, by decide +kernel⟩
theorem ok_cheapest (T : Txt K mg Γ Φ Ψ) : FnF Γ P w K mg base 12 (Φ 63) f_cheapest := by
  obtain ⟨fd, hF, hb⟩ := T.F_cheapest
  refine fn_body hF sc_cheapest hb (by decide) fun cdv A outer s H E hr => ?_
  exact (b_cons (s_set sc_cheapest.nd rfl (s_call (ok_good_sets T) (hr.mono (by decide)) (pz_of (takes_of rfl rfl rfl rfl)) (by rfl) T.m_good_sets T.kp_good_sets (a_cons (s_var rfl) a_nil))) (b_cons (s_if (t_cmp (ok_eq (hu64 hr)) (s_callIf (c := isDkL) (s_callB call_lenRd rd_lenDk (by rfl) T.n_len (by decide +kernel) (a_cons (s_var rfl) a_nil)) (s_callB call_len3 rd_len (by rfl) T.n_len (by decide +kernel) (a_cons (s_var rfl) a_nil))) s_int (nomark _)) (b_one (s_ret (s_fz (s_make T.mk_NoTelling (ok_NoTelling_init T) (hr.mono (by decide)) (pz_of (takes_of rfl rfl rfl rfl)) (by rfl) T.c_NoTelling (a_cons (s_call (ok_doubts_about T) (hr.mono (by decide)) (pz_of (takes_of rfl rfl rfl rfl)) (by rfl) T.m_doubts_about T.kp_doubts_about (a_cons (s_var rfl) (a_cons (s_call (ok_all_sets T) (hr.mono (by decide)) (pz_of (takes_of rfl rfl rfl rfl)) (by rfl) T.m_all_sets T.kp_all_sets (a_cons (s_var rfl) a_nil)) a_nil))) a_nil))))) b_nil) (b_cons (s_set sc_cheapest.nd rfl (s_callB (cr_min rfl) rd_minL (by rfl) T.n_min (by decide +kernel) (a_cons (s_lc (own := [("said", 2)]) rfl sc_cheapest.nd (i_any (s_var rfl)) (blkOk_by (N := ["scene", "good", "said", "least", "first", "chain", "_", "reasons"]) (sc := defScope s_cheapest) (by decide +kernel)) (by decide) (fun s H C cl fp => (pgN (i := 2) sc_cheapest.nd rfl)) (fun s H C cl fp => ts_nil) (fun s H C cl fp => (s_call (ok_set_cost T) (hr.mono (by decide)) pz0 (by rfl) T.m_set_cost T.kp_set_cost (a_cons (s_var rfl) (a_cons (s_var rfl) a_nil))))) a_nil))) (b_cons (s_set sc_cheapest.nd rfl (s_ixA (hu_of hr) (s_lc (own := [("said", 2)]) rfl sc_cheapest.nd (i_any (s_var rfl)) (blkOk_by (N := ["scene", "good", "said", "least", "first", "chain", "_", "reasons"]) (sc := defScope s_cheapest) (by decide +kernel)) (by decide) (fun s H C cl fp => (pgN (i := 2) sc_cheapest.nd rfl)) (fun s H C cl fp => (ts_one (t_cmp (ok_eq (hu64 hr)) (s_call (ok_set_cost T) (hr.mono (by decide)) pz0 (by rfl) T.m_set_cost T.kp_set_cost (a_cons (s_var rfl) (a_cons (s_var rfl) a_nil))) (s_var rfl) (nomark _)))) (fun s H C cl fp => (s_var rfl))) s_int)) (b_cons (s_setLc (own := [("chain", 5), ("_", 6)]) rfl sc_cheapest.nd rfl rfl (i_any (s_prop T.cl_Scene T.p_Scene_goals (ok_Scene_goals T) (hr.mono (by decide)) (s_var rfl))) (blkOk_by (N := ["scene", "good", "said", "least", "first", "chain", "_", "reasons"]) (sc := defScope s_cheapest) (by decide +kernel)) (by decide) (fun s H C cl fp => (pgN2 rfl sc_cheapest.nd rfl rfl)) (fun s H C cl fp => ts_nil) (fun s H C cl fp => (s_call (ok_evidence T) (hr.mono (by decide)) pz0 (by rfl) T.m_evidence T.kp_evidence (a_cons (s_var rfl) (a_cons (s_var rfl) (a_cons (s_var rfl) a_nil)))))) (b_one (s_ret (s_fz (s_make T.mk_Telling (ok_Telling_init T) (hr.mono (by decide)) (pz_of (takes_of rfl rfl rfl rfl)) (by rfl) T.c_Telling (a_cons (s_var rfl) (a_cons (s_var rfl) (a_cons (s_call (ok_doubts_about T) (hr.mono (by decide)) (pz_of (takes_of rfl rfl rfl rfl)) (by rfl) T.m_doubts_about T.kp_doubts_about (a_cons (s_var rfl) (a_cons (s_call (ok_cheaper_sets T) (hr.mono (by decide)) (pz_of (takes_of rfl rfl rfl rfl)) (by rfl) T.m_cheaper_sets T.kp_cheaper_sets (a_cons (s_var rfl) (a_cons (s_var rfl) a_nil))) a_nil))) a_nil))))))))))))

def f_extensions : Fd := runB 3 1 (sRet (eLc2 (iAny (eCall f_all_sets (aCons (eVar 0) aNil))) (.slot 1) tYesD (iAny (eProp 1 f_Scene_names (eVar 0))) (.slot 2) (tBin opNotInA (eVar 2) (eVar 1)) (eTup (aCons (eVar 1) (aCons (eMeth 1 "in_order" f_Scene_in_order (eVar 0) (aCons (eLst (aStar (eVar 1) (aCons (eVar 2) aNil))) aNil)) aNil))) [1, 2] [2]))
theorem sc_extensions : FnScope ["scene", "said", "name"] ["scene"] (defScope s_extensions) := ⟨rfl, rfl, rfl, by decide +kernel, rfl, by decide +kernel, by decide +kernel⟩
theorem ok_extensions (T : Txt K mg Γ Φ Ψ) : FnF Γ P w K mg base 11 (Φ 71) f_extensions := by
  obtain ⟨fd, hF, hb⟩ := T.F_extensions
  refine fn_body hF sc_extensions hb (by decide) fun cdv A outer s H E hr => ?_
  exact (b_one (s_ret (s_lc2 (own := [("said", 1), ("name", 2)]) rfl sc_extensions.nd (i_any (s_call (ok_all_sets T) (hr.mono (by decide)) (pz_of (takes_of rfl rfl rfl rfl)) (by rfl) T.m_all_sets T.kp_all_sets (a_cons (s_var rfl) a_nil))) (blkOk_by (N := ["scene", "said", "name"]) (sc := defScope s_extensions) (by decide +kernel)) (by decide) (by decide) (by decide) (fun s H C cl fp => (pgN (i := 1) sc_extensions.nd rfl)) (fun s H C cl fp => ts_nil) (fun s H C cl fp => (i_any (s_prop T.cl_Scene T.p_Scene_names (ok_Scene_names T) (hr.mono (by decide)) (s_var rfl)))) (fun s H C cl fp => (pgN (i := 2) sc_extensions.nd rfl)) (fun s H C cl fp => (ts_one (t_notInA (hu_of hr) (s_var rfl) (s_var rfl)))) (fun s H C cl fp => (s_tup (a_cons (s_var rfl) (a_cons (s_meth T.cl_Scene T.me_Scene_in_order (ok_Scene_in_order T) (hr.mono (by decide)) pz0 (s_var rfl) (a_cons (s_lst (a_star (s_var rfl) (a_cons (s_var rfl) a_nil))) a_nil)) a_nil)))))))

def f_breaches : Fd := runB 4 1 (bCons (sAsg (eCall f_good_sets (aCons (eVar 0) aNil)) (gSlot 1)) (sRet (eLc (iAny (eCall f_extensions (aCons (eVar 0) aNil))) (.tup [2, 3]) (tAnd (tBin opInD (eVar 2) (eVar 1)) (tBin opNotInD (eVar 3) (eVar 1))) (eTup (aCons (eVar 2) (aCons (eVar 3) aNil))) [2, 3])))
theorem sc_breaches : FnScope ["scene", "good", "said", "more"] ["scene"] (defScope s_breaches) := ⟨rfl, rfl, rfl, by decide +kernel, rfl, by decide +kernel, by decide +kernel⟩
theorem ok_breaches (T : Txt K mg Γ Φ Ψ) : FnF Γ P w K mg base 12 (Φ 65) f_breaches := by
  obtain ⟨fd, hF, hb⟩ := T.F_breaches
  refine fn_body hF sc_breaches hb (by decide) fun cdv A outer s H E hr => ?_
  exact (b_cons (s_set sc_breaches.nd rfl (s_call (ok_good_sets T) (hr.mono (by decide)) (pz_of (takes_of rfl rfl rfl rfl)) (by rfl) T.m_good_sets T.kp_good_sets (a_cons (s_var rfl) a_nil))) (b_one (s_ret (s_lc (own := [("said", 2), ("more", 3)]) rfl sc_breaches.nd (i_any (s_call (ok_extensions T) (hr.mono (by decide)) (pz_of (takes_of rfl rfl rfl rfl)) (by rfl) T.m_extensions T.kp_extensions (a_cons (s_var rfl) a_nil))) (blkOk_by (N := ["scene", "good", "said", "more"]) (sc := defScope s_breaches) (by decide +kernel)) (by decide) (fun s H C cl fp => (pgN2 rfl sc_breaches.nd rfl rfl)) (fun s H C cl fp => (ts_one (t_bool (w_and (t_cmp (ok_inD (hu65 hr)) (s_var rfl) (s_var rfl) (by rfl)) (w_and1 (t_cmp (ok_notInD (hu65 hr)) (s_var rfl) (s_var rfl) (by rfl))))))) (fun s H C cl fp => (s_tup (a_cons (s_var rfl) (a_cons (s_var rfl) a_nil))))))))

def f_rescues : Fd := runB 4 1 (bCons (sAsg (eCall f_good_sets (aCons (eVar 0) aNil)) (gSlot 1)) (sRet (eLc (iAny (eCall f_extensions (aCons (eVar 0) aNil))) (.tup [2, 3]) (tAnd (tBin opNotInD (eVar 2) (eVar 1)) (tBin opInD (eVar 3) (eVar 1))) (eTup (aCons (eVar 2) (aCons (eVar 3) aNil))) [2, 3])))
theorem sc_rescues : FnScope ["scene", "good", "said", "more"] ["scene"] (defScope s_rescues) := ⟨rfl, rfl, rfl, by decide +kernel, rfl, by decide +kernel, by decide +kernel⟩
theorem ok_rescues (T : Txt K mg Γ Φ Ψ) : FnF Γ P w K mg base 12 (Φ 66) f_rescues := by
  obtain ⟨fd, hF, hb⟩ := T.F_rescues
  refine fn_body hF sc_rescues hb (by decide) fun cdv A outer s H E hr => ?_
  exact (b_cons (s_set sc_rescues.nd rfl (s_call (ok_good_sets T) (hr.mono (by decide)) (pz_of (takes_of rfl rfl rfl rfl)) (by rfl) T.m_good_sets T.kp_good_sets (a_cons (s_var rfl) a_nil))) (b_one (s_ret (s_lc (own := [("said", 2), ("more", 3)]) rfl sc_rescues.nd (i_any (s_call (ok_extensions T) (hr.mono (by decide)) (pz_of (takes_of rfl rfl rfl rfl)) (by rfl) T.m_extensions T.kp_extensions (a_cons (s_var rfl) a_nil))) (blkOk_by (N := ["scene", "good", "said", "more"]) (sc := defScope s_rescues) (by decide +kernel)) (by decide) (fun s H C cl fp => (pgN2 rfl sc_rescues.nd rfl rfl)) (fun s H C cl fp => (ts_one (t_bool (w_and (t_cmp (ok_notInD (hu65 hr)) (s_var rfl) (s_var rfl) (by rfl)) (w_and1 (t_cmp (ok_inD (hu65 hr)) (s_var rfl) (s_var rfl) (by rfl))))))) (fun s H C cl fp => (s_tup (a_cons (s_var rfl) (a_cons (s_var rfl) a_nil))))))))

def f_law_scene : Fd := runB 4 2 (bCons (sAsg (eDispK (pCons (eC (.str "ann")) (eTup (aCons (eC (.int 0)) (aCons (eC (.int 0)) (aCons (eC (.int 1)) (aCons (eC (.int 1)) aNil))))) (pCons (eC (.str "bob")) (eTup (aCons (eC (.int 0)) (aCons (eC (.int 1)) (aCons (eC (.int 0)) (aCons (eC (.int 1)) aNil))))) (pCons (eC (.str "cy")) (eTup (aCons (eC (.int 2)) (aCons (eC (.int 2)) (aCons (eC (.int 2)) (aCons (eC (.int 2)) aNil))))) pNil)))) (gSlot 2)) (bCons (sAsg (eDispK (pCons (eC (.str "odd")) (eTup (aCons (eFz (eCall (mkC 0 f_Claim_init) (aCons (eC (.int 4)) (aCons (eC (.int 3)) (aCons (eC (.int 1)) aNil))))) (aCons (eVar 0) aNil))) (pCons (eC (.str "late")) (eTup (aCons (eFz (eCall (mkC 0 f_Claim_init) (aCons (eC (.int 4)) (aCons (eC (.int 2)) (aCons (eC (.int 3)) aNil))))) (aCons (eVar 0) aNil))) (pCons (eC (.str "some")) (eTup (aCons (eUn (opOwn1 0 f_Claim_neg) (eFz (eCall (mkC 0 f_Claim_init) (aCons (eC (.int 4)) (aCons (eC (.int 0)) aNil))))) (aCons (eC (.int 1)) aNil))) pNil)))) (gSlot 3)) (sRet (eFz (eCall (mkC 1 f_Scene_init) (aCons (eC (.int 4)) (aCons (eC (.int 3)) (aCons (eVar 2) (aCons (eFz (eCall (mkC 0 f_Claim_init) (aCons (eC (.int 4)) (aCons (eC (.int 3)) aNil)))) (aCons (eVar 3) (aCons (eVar 1) aNil)))))))))))
theorem sc_law_scene : FnScope ["_law_worth", "_law_goals", "_law_people", "_law_lines"] ["_law_worth", "_law_goals"] (defScope s_law_scene) := ⟨rfl, rfl, rfl, by decide +kernel, rfl, by decide +kernel, by decide +kernel⟩
theorem ok_law_scene (T : Txt K mg Γ Φ Ψ) : FnF Γ P w K mg base 8 (Φ 78) f_law_scene := by
  obtain ⟨fd, hF, hb⟩ := T.F_law_scene
  refine fn_body hF sc_law_scene hb (by decide) fun cdv A outer s H E hr => ?_
  exact (b_cons (s_set sc_law_scene.nd rfl (s_dispK (p_cons s_str (s_tup (a_cons s_int (a_cons s_int (a_cons s_int (a_cons s_int a_nil))))) (p_cons s_str (s_tup (a_cons s_int (a_cons s_int (a_cons s_int (a_cons s_int a_nil))))) (p_cons s_str (s_tup (a_cons s_int (a_cons s_int (a_cons s_int (a_cons s_int a_nil))))) p_nil))))) (b_cons (s_set sc_law_scene.nd rfl (s_dispK (p_cons s_str (s_tup (a_cons (s_fz (s_make T.mk_Claim (ok_Claim_init T) (hr.mono (by decide)) (pz_of (takes_of rfl rfl rfl rfl)) (by rfl) T.c_Claim (a_cons s_int (a_cons s_int (a_cons s_int a_nil))))) (a_cons (s_var rfl) a_nil))) (p_cons s_str (s_tup (a_cons (s_fz (s_make T.mk_Claim (ok_Claim_init T) (hr.mono (by decide)) (pz_of (takes_of rfl rfl rfl rfl)) (by rfl) T.c_Claim (a_cons s_int (a_cons s_int (a_cons s_int a_nil))))) (a_cons (s_var rfl) a_nil))) (p_cons s_str (s_tup (a_cons (s_un (ok_ownNeg T.o_Claim_neg.1 T.o_Claim_neg.2 (ok_Claim_neg T) (hr.mono (by decide)) (pz_of (takes_of rfl rfl rfl rfl))) (s_fz (s_make T.mk_Claim (ok_Claim_init T) (hr.mono (by decide)) (pz_of (takes_of rfl rfl rfl rfl)) (by rfl) T.c_Claim (a_cons s_int (a_cons s_int a_nil))))) (a_cons s_int a_nil))) p_nil))))) (b_one (s_ret (s_fz (s_make T.mk_Scene (ok_Scene_init T) (hr.mono (by decide)) (pz_of (takes_of rfl rfl rfl rfl)) (by rfl) T.c_Scene (a_cons s_int (a_cons s_int (a_cons (s_var rfl) (a_cons (s_fz (s_make T.mk_Claim (ok_Claim_init T) (hr.mono (by decide)) (pz_of (takes_of rfl rfl rfl rfl)) (by rfl) T.c_Claim (a_cons s_int (a_cons s_int a_nil)))) (a_cons (s_var rfl) (a_cons (s_var rfl) a_nil))))))))))))

def f_law_claims_right : Fd := runB 3 0 (bCons (sAsg (eTup (aCons (eFz (eCall (mkC 0 f_Claim_init) (aCons (eC (.int 5)) (aCons (eC (.int 4)) (aCons (eC (.int 0)) (aCons (eC (.int 2)) aNil)))))) (aCons (eFz (eCall (mkC 0 f_Claim_init) (aCons (eC (.int 5)) (aCons (eC (.int 3)) (aCons (eC (.int 2)) aNil))))) aNil))) (gTup [(gSlot 0), (gSlot 1)])) (bCons (sIf (tBin opNe (eProp 0 f_Claim_worlds (eVar 0)) (eTup (aCons (eC (.int 0)) (aCons (eC (.int 2)) (aCons (eC (.int 4)) aNil))))) (sRet (eC (.bl false))) bNil) (bCons (sIf (tBin opNe (eProp 0 f_Claim_total (eVar 0)) (eC (.int 5))) (sRet (eC (.bl false))) bNil) (bCons (sIf (tBin opNe (eProp 0 f_Claim_worlds (eBin (opOwn2 0 f_Claim_and) (eVar 0) (eVar 1))) (eTup (aCons (eC (.int 2)) aNil))) (sRet (eC (.bl false))) bNil) (bCons (sIf (tBin opNe (eProp 0 f_Claim_worlds (eBin (opOwn2 0 f_Claim_or) (eVar 0) (eVar 1))) (eTup (aCons (eC (.int 0)) (aCons (eC (.int 2)) (aCons (eC (.int 3)) (aCons (eC (.int 4)) aNil)))))) (sRet (eC (.bl false))) bNil) (bCons (sIf (tBin opNe (eProp 0 f_Claim_worlds (eUn (opOwn1 0 f_Claim_neg) (eVar 0))) (eTup (aCons (eC (.int 1)) (aCons (eC (.int 3)) aNil)))) (sRet (eC (.bl false))) bNil) (bCons (sIf (tNot (tBin (opOwn2 0 f_Claim_eq) (eUn (opOwn1 0 f_Claim_neg) (eCm 0 f_Claim_sure (eC (.gl 0)) (aCons (eC (.int 3)) aNil))) (eFz (eCall (mkC 0 f_Claim_init) (aCons (eC (.int 3)) aNil))))) (sRet (eC (.bl false))) bNil) (bCons (sIf (eTru (eCall (opBoolLen 0 f_Claim_len) (aCons (eFz (eCall (mkC 0 f_Claim_init) (aCons (eC (.int 8)) aNil))) aNil))) (sRet (eC (.bl false))) bNil) (bCons (sIf (tNot (eTru (eCall (opBoolLen 0 f_Claim_len) (aCons (eFz (eCall (mkC 0 f_Claim_init) (aCons (eC (.int 1)) (aCons (eC (.int 0)) aNil)))) aNil)))) (sRet (eC (.bl false))) bNil) (bCons (sIf (tBin opNe (eLc (iRange1 (aCons (eC (.int 5)) aNil)) (.slot 2) tYesD (eBin (opOwnIn false 0 f_Claim_contains) (eVar 2) (eVar 0)) [2]) (eLst (aCons (eC (.bl true)) (aCons (eC (.bl false)) (aCons (eC (.bl true)) (aCons (eC (.bl false)) (aCons (eC (.bl true)) aNil))))))) (sRet (eC (.bl false))) bNil) (bCons (sIf (tBin opNe (eCall (opLenO 0 f_Claim_len) (aCons (eVar 1) aNil)) (eC (.int 2))) (sRet (eC (.bl false))) bNil) (bCons (sIf (tBin (opOwn2 0 f_Claim_eq) (eVar 0) (eFz (eCall (mkC 0 f_Claim_init) (aCons (eC (.int 6)) (aCons (eC (.int 0)) (aCons (eC (.int 2)) (aCons (eC (.int 4)) aNil))))))) (sRet (eC (.bl false))) bNil) (sRet (eAnd (eBin (opOwn2 0 f_Claim_eq) (eVar 0) (eFz (eCall (mkC 0 f_Claim_init) (aCons (eC (.int 5)) (aCons (eC (.int 2)) (aCons (eC (.int 4)) (aCons (eC (.int 0)) aNil))))))) (eAnd (eBin opEq (eProp 0 f_Claim_worlds (eCm 0 f_Claim_sure (eC (.gl 0)) (aCons (eC (.int 2)) aNil))) (eTup (aCons (eC (.int 0)) (aCons (eC (.int 1)) aNil)))) (eBin opEq (eProp 0 f_Claim_worlds (eBin (opOwn2 0 f_Claim_and) (eVar 0) (eUn (opOwn1 0 f_Claim_neg) (eVar 0)))) (eTup aNil)))))))))))))))))
theorem sc_law_claims_right : FnScope ["_law_one", "_law_other", "_law_world"] [] (defScope s_law_claims_right) := ⟨rfl, rfl, rfl, by decide +kernel, rfl, by decide +kernel, by decide +kernel⟩
theorem ok_law_claims_right (T : Txt K mg Γ Φ Ψ) : FnF Γ P w K mg base 7 (Φ 79) f_law_claims_right := by
  obtain ⟨fd, hF, hb⟩ := T.F_law_claims_right
  refine fn_body hF sc_law_claims_right hb (by decide) fun cdv A outer s H E hr => ?_
  exact (b_cons (s_asg (s_tup (a_cons (s_fz (s_make T.mk_Claim (ok_Claim_init T) (hr.mono (by decide)) (pz_of (takes_of rfl rfl rfl rfl)) (by rfl) T.c_Claim (a_cons s_int (a_cons s_int (a_cons s_int (a_cons s_int a_nil)))))) (a_cons (s_fz (s_make T.mk_Claim (ok_Claim_init T) (hr.mono (by decide)) (pz_of (takes_of rfl rfl rfl rfl)) (by rfl) T.c_Claim (a_cons s_int (a_cons s_int (a_cons s_int a_nil))))) a_nil))) (g_tup rfl (gs_cons (g_slot sc_law_claims_right.nd rfl) (gs_cons (g_slot sc_law_claims_right.nd rfl) gs_nil)))) (b_cons (s_if (t_cmp (ok_ne (hu64 hr)) (s_prop T.cl_Claim T.p_Claim_worlds (ok_Claim_worlds T) (hr.mono (by decide)) (s_var rfl)) (s_tup (a_cons s_int (a_cons s_int (a_cons s_int a_nil)))) (nomark _)) (b_one (s_ret s_bl)) b_nil) (b_cons (s_if (t_cmp (ok_ne (hu64 hr)) (s_prop T.cl_Claim T.p_Claim_total (ok_Claim_total T) (hr.mono (by decide)) (s_var rfl)) s_int (nomark _)) (b_one (s_ret s_bl)) b_nil) (b_cons (s_if (t_cmp (ok_ne (hu64 hr)) (s_prop T.cl_Claim T.p_Claim_worlds (ok_Claim_worlds T) (hr.mono (by decide)) (s_bin (ok_own2 (op := .BitAnd) T.s_Claim T.o_Claim_and.1 T.o_Claim_and.2 (ok_Claim_and T) (hr.mono (by decide)) (pz_of (takes_of rfl rfl rfl rfl))) (s_var rfl) (s_var rfl))) (s_tup (a_cons s_int a_nil)) (nomark _)) (b_one (s_ret s_bl)) b_nil) (b_cons (s_if (t_cmp (ok_ne (hu64 hr)) (s_prop T.cl_Claim T.p_Claim_worlds (ok_Claim_worlds T) (hr.mono (by decide)) (s_bin (ok_own2 (op := .BitOr) T.s_Claim T.o_Claim_or.1 T.o_Claim_or.2 (ok_Claim_or T) (hr.mono (by decide)) (pz_of (takes_of rfl rfl rfl rfl))) (s_var rfl) (s_var rfl))) (s_tup (a_cons s_int (a_cons s_int (a_cons s_int (a_cons s_int a_nil))))) (nomark _)) (b_one (s_ret s_bl)) b_nil) (b_cons (s_if (t_cmp (ok_ne (hu64 hr)) (s_prop T.cl_Claim T.p_Claim_worlds (ok_Claim_worlds T) (hr.mono (by decide)) (s_un (ok_ownNeg T.o_Claim_neg.1 T.o_Claim_neg.2 (ok_Claim_neg T) (hr.mono (by decide)) (pz_of (takes_of rfl rfl rfl rfl))) (s_var rfl))) (s_tup (a_cons s_int (a_cons s_int a_nil))) (nomark _)) (b_one (s_ret s_bl)) b_nil) (b_cons (s_if (t_not (t_cmp (ok_ownEq hr.units0 T.nf_Claim T.o_Claim_eq.1 T.o_Claim_eq.2 (ok_Claim_eq T) (hr.mono (by decide)) (pz_of (takes_of rfl rfl rfl rfl))) (s_un (ok_ownNeg T.o_Claim_neg.1 T.o_Claim_neg.2 (ok_Claim_neg T) (hr.mono (by decide)) (pz_of (takes_of rfl rfl rfl rfl))) (s_cmeth (pl := _) (s_glob (by rfl) T.c_Claim) T.cr_Claim T.cm_Claim_sure (ok_Claim_sure T) (hr.mono (by decide)) (pz_of (takes_of rfl rfl rfl rfl)) (a_cons s_int a_nil))) (s_fz (s_make T.mk_Claim (ok_Claim_init T) (hr.mono (by decide)) (pz_of (takes_of rfl rfl rfl rfl)) (by rfl) T.c_Claim (a_cons s_int a_nil))) (nomark _))) (b_one (s_ret s_bl)) b_nil) (b_cons (s_if (t_truth (s_boolLen T.b_Claim T.o_Claim_len.1 T.o_Claim_len.2 (ok_Claim_len T) (hr.mono (by decide)) (pz_of (takes_of rfl rfl rfl rfl)) (by rfl) T.n_bool (a_cons (s_fz (s_make T.mk_Claim (ok_Claim_init T) (hr.mono (by decide)) (pz_of (takes_of rfl rfl rfl rfl)) (by rfl) T.c_Claim (a_cons s_int a_nil))) a_nil))) (b_one (s_ret s_bl)) b_nil) (b_cons (s_if (t_not (t_truth (s_boolLen T.b_Claim T.o_Claim_len.1 T.o_Claim_len.2 (ok_Claim_len T) (hr.mono (by decide)) (pz_of (takes_of rfl rfl rfl rfl)) (by rfl) T.n_bool (a_cons (s_fz (s_make T.mk_Claim (ok_Claim_init T) (hr.mono (by decide)) (pz_of (takes_of rfl rfl rfl rfl)) (by rfl) T.c_Claim (a_cons s_int (a_cons s_int a_nil)))) a_nil)))) (b_one (s_ret s_bl)) b_nil) (b_cons (s_if (t_cmp (ok_ne (hu64 hr)) (s_lc (own := [("_law_world", 2)]) rfl sc_law_claims_right.nd (i_range1 (by rfl) T.n_range (a_cons s_int a_nil)) (blkOk_by (N := ["_law_one", "_law_other", "_law_world"]) (sc := defScope s_law_claims_right) (by decide +kernel)) (by decide) (fun s H C cl fp => (pgN (i := 2) sc_law_claims_right.nd rfl)) (fun s H C cl fp => ts_nil) (fun s H C cl fp => (s_cmp (ok_ownIn T.o_Claim_contains.1 T.o_Claim_contains.2 (ok_Claim_contains T) (hr.mono (by decide)) pz0) (s_var rfl) (s_var rfl) (by rfl)))) (s_lst (a_cons s_bl (a_cons s_bl (a_cons s_bl (a_cons s_bl (a_cons s_bl a_nil)))))) (nomark _)) (b_one (s_ret s_bl)) b_nil) (b_cons (s_if (t_cmp (ok_ne (hu64 hr)) (s_lenO T.o_Claim_len.1 T.o_Claim_len.2 (ok_Claim_len T) (hr.mono (by decide)) (pz_of (takes_of rfl rfl rfl rfl)) (by rfl) T.n_len (a_cons (s_var rfl) a_nil)) s_int (nomark _)) (b_one (s_ret s_bl)) b_nil) (b_cons (s_if (t_cmp (ok_ownEq hr.units0 T.nf_Claim T.o_Claim_eq.1 T.o_Claim_eq.2 (ok_Claim_eq T) (hr.mono (by decide)) (pz_of (takes_of rfl rfl rfl rfl))) (s_var rfl) (s_fz (s_make T.mk_Claim (ok_Claim_init T) (hr.mono (by decide)) (pz_of (takes_of rfl rfl rfl rfl)) (by rfl) T.c_Claim (a_cons s_int (a_cons s_int (a_cons s_int (a_cons s_int a_nil)))))) (nomark _)) (b_one (s_ret s_bl)) b_nil) (b_one (s_ret (s_and (s_cmp (ok_ownEq hr.units0 T.nf_Claim T.o_Claim_eq.1 T.o_Claim_eq.2 (ok_Claim_eq T) (hr.mono (by decide)) (pz_of (takes_of rfl rfl rfl rfl))) (s_var rfl) (s_fz (s_make T.mk_Claim (ok_Claim_init T) (hr.mono (by decide)) (pz_of (takes_of rfl rfl rfl rfl)) (by rfl) T.c_Claim (a_cons s_int (a_cons s_int (a_cons s_int (a_cons s_int a_nil)))))) (nomark _)) (s_and (s_cmp (ok_eq (hu64 hr)) (s_prop T.cl_Claim T.p_Claim_worlds (ok_Claim_worlds T) (hr.mono (by decide)) (s_cmeth (pl := _) (s_glob (by rfl) T.c_Claim) T.cr_Claim T.cm_Claim_sure (ok_Claim_sure T) (hr.mono (by decide)) (pz_of (takes_of rfl rfl rfl rfl)) (a_cons s_int a_nil))) (s_tup (a_cons s_int (a_cons s_int a_nil))) (nomark _)) (s_one (s_cmp (ok_eq (hu64 hr)) (s_prop T.cl_Claim T.p_Claim_worlds (ok_Claim_worlds T) (hr.mono (by decide)) (s_bin (ok_own2 (op := .BitAnd) T.s_Claim T.o_Claim_and.1 T.o_Claim_and.2 (ok_Claim_and T) (hr.mono (by decide)) (pz_of (takes_of rfl rfl rfl rfl))) (s_var rfl) (s_un (ok_ownNeg T.o_Claim_neg.1 T.o_Claim_neg.2 (ok_Claim_neg T) (hr.mono (by decide)) (pz_of (takes_of rfl rfl rfl rfl))) (s_var rfl)))) (s_tup a_nil) (nomark _)))))))))))))))))))

def f_law_knowing_right : Fd := runB 7 1 (bCons (sAsg (eCall f_law_scene (aCons (eVar 0) (aCons (eLst (aCons (eTup (aCons (eTup (aCons (eC (.str "ann")) aNil)) (aCons (eC (.bl true)) aNil))) aNil)) aNil))) (gSlot 1)) (bCons (sAsg (eLst (aCons (eTup (aCons (eTup aNil) (aCons (eTup (aCons (eC (.int 0)) (aCons (eC (.int 1)) (aCons (eC (.int 2)) (aCons (eC (.int 3)) aNil))))) aNil))) (aCons (eTup (aCons (eTup (aCons (eC (.str "odd")) aNil)) (aCons (eTup (aCons (eC (.int 1)) (aCons (eC (.int 3)) aNil))) aNil))) (aCons (eTup (aCons (eTup (aCons (eC (.str "late")) aNil)) (aCons (eTup (aCons (eC (.int 2)) (aCons (eC (.int 3)) aNil))) aNil))) aNil)))) (gSlot 2)) (bCons (sAsg (eBin opAdd (eVar 2) (eLst (aCons (eTup (aCons (eTup (aCons (eC (.str "odd")) (aCons (eC (.str "late")) aNil))) (aCons (eTup (aCons (eC (.int 3)) aNil)) aNil))) (aCons (eTup (aCons (eTup (aCons (eC (.str "some")) aNil)) (aCons (eTup (aCons (eC (.int 1)) (aCons (eC (.int 2)) (aCons (eC (.int 3)) aNil)))) aNil))) (aCons (eTup (aCons (eTup (aCons (eC (.str "odd")) (aCons (eC (.str "some")) aNil))) (aCons (eTup (aCons (eC (.int 1)) (aCons (eC (.int 3)) aNil))) aNil))) aNil))))) (gSlot 2)) (bCons (sIf (tNot (eTru (eCall opAll (aCons (eLc (iAny (eVar 2)) (.tup [3, 4]) tYesD (eBin opEq (eCallO 1 f_Scene_call (eVar 1) (aCons (eVar 3) aNil)) (eVar 4)) [3, 4]) aNil)))) (sRet (eC (.bl false))) bNil) (bCons (sIf (tBin opNe (eMeth 1 "cost" f_Scene_cost (eVar 1) (aCons (eC (.str "late")) aNil)) (eVar 0)) (sRet (eC (.bl false))) bNil) (bCons (sIf (tBin opNe (eCall f_set_cost (aCons (eVar 1) (aCons (eTup (aCons (eC (.str "odd")) (aCons (eC (.str "late")) (aCons (eC (.str "some")) aNil)))) aNil))) (eBin opAdd (eBin opMul (eC (.int 2)) (eVar 0)) (eC (.int 1)))) (sRet (eC (.bl false))) bNil) (bCons (sAsg (eLst (aCons (eTup (aCons (eTup aNil) (aCons (eTup (aCons (eC (.str "ann")) aNil)) (aCons (eC (.bl false)) aNil)))) (aCons (eTup (aCons (eTup aNil) (aCons (eTup (aCons (eC (.str "bob")) aNil)) (aCons (eC (.bl false)) aNil)))) (aCons (eTup (aCons (eTup (aCons (eC (.str "odd")) aNil)) (aCons (eTup (aCons (eC (.str "ann")) aNil)) (aCons (eC (.bl true)) aNil)))) aNil)))) (gSlot 2)) (bCons (sAsg (eBin opAdd (eVar 2) (eLst (aCons (eTup (aCons (eTup (aCons (eC (.str "odd")) aNil)) (aCons (eTup (aCons (eC (.str "bob")) aNil)) (aCons (eC (.bl false)) aNil)))) (aCons (eTup (aCons (eTup (aCons (eC (.str "odd")) aNil)) (aCons (eTup (aCons (eC (.str "cy")) aNil)) (aCons (eC (.bl false)) aNil)))) aNil)))) (gSlot 2)) (bCons (sAsg (eBin opAdd (eVar 2) (eLst (aCons (eTup (aCons (eTup (aCons (eC (.str "late")) aNil)) (aCons (eTup (aCons (eC (.str "bob")) aNil)) (aCons (eC (.bl true)) aNil)))) (aCons (eTup (aCons (eTup (aCons (eC (.str "late")) aNil)) (aCons (eTup (aCons (eC (.str "ann")) aNil)) (aCons (eC (.bl false)) aNil)))) aNil)))) (gSlot 2)) (bCons (sAsg (eBin opAdd (eVar 2) (eLst (aCons (eTup (aCons (eTup (aCons (eC (.str "odd")) (aCons (eC (.str "late")) aNil))) (aCons (eTup (aCons (eC (.str "cy")) aNil)) (aCons (eC (.bl true)) aNil)))) aNil))) (gSlot 2)) (bCons (sAsg (eBin opAdd (eVar 2) (eLst (aCons (eTup (aCons (eTup (aCons (eC (.str "odd")) aNil)) (aCons (eTup (aCons (eC (.str "ann")) (aCons (eC (.str "ann")) aNil))) (aCons (eC (.bl true)) aNil)))) (aCons (eTup (aCons (eTup (aCons (eC (.str "odd")) aNil)) (aCons (eTup (aCons (eC (.str "bob")) (aCons (eC (.str "ann")) aNil))) (aCons (eC (.bl false)) aNil)))) aNil)))) (gSlot 2)) (bCons (sAsg (eBin opAdd (eVar 2) (eLst (aCons (eTup (aCons (eTup (aCons (eC (.str "late")) aNil)) (aCons (eTup (aCons (eC (.str "ann")) (aCons (eC (.str "bob")) aNil))) (aCons (eC (.bl false)) aNil)))) aNil))) (gSlot 2)) (bCons (sAsg (eBin opAdd (eVar 2) (eLst (aCons (eTup (aCons (eTup (aCons (eC (.str "odd")) (aCons (eC (.str "late")) aNil))) (aCons (eTup (aCons (eC (.str "cy")) (aCons (eC (.str "bob")) (aCons (eC (.str "ann")) aNil)))) (aCons (eC (.bl true)) aNil)))) aNil))) (gSlot 2)) (bCons (sAsg (eBin opAdd (eVar 2) (eLst (aCons (eTup (aCons (eTup (aCons (eC (.str "some")) aNil)) (aCons (eTup (aCons (eC (.str "ann")) aNil)) (aCons (eC (.bl false)) aNil)))) (aCons (eTup (aCons (eTup (aCons (eC (.str "some")) aNil)) (aCons (eTup (aCons (eC (.str "bob")) aNil)) (aCons (eC (.bl false)) aNil)))) aNil)))) (gSlot 2)) (bCons (sAsg (eBin opAdd (eVar 2) (eLst (aCons (eTup (aCons (eTup (aCons (eC (.str "odd")) aNil)) (aCons (eTup (aCons (eC (.str "ann")) (aCons (eC (.str "bob")) aNil))) (aCons (eC (.bl false)) aNil)))) (aCons (eTup (aCons (eTup (aCons (eC (.str "odd")) aNil)) (aCons (eTup (aCons (eC (.str "ann")) (aCons (eC (.str "ann")) (aCons (eC (.str "ann")) aNil)))) (aCons (eC (.bl true)) aNil)))) aNil)))) (gSlot 2)) (bCons (sFor (iAny (eVar 2)) (gTup [(gSlot 3), (gSlot 5), (gSlot 4)]) (sIf (tBin opNe (eCall f_holds (aCons (eVar 1) (aCons (eVar 3) (aCons (eVar 5) aNil)))) (eVar 4)) (sRet (eC (.bl false))) bNil)) (bCons (sAsg (eLst (aCons (eCall f_evidence (aCons (eVar 1) (aCons (eTup (aCons (eC (.str "odd")) aNil)) (aCons (eTup (aCons (eC (.str "ann")) aNil)) aNil)))) (aCons (eCall f_evidence (aCons (eVar 1) (aCons (eTup (aCons (eC (.str "odd")) aNil)) (aCons (eTup (aCons (eC (.str "bob")) aNil)) aNil)))) aNil))) (gSlot 6)) (bCons (sAsg (eBin opAdd (eVar 6) (eLst (aCons (eCall f_evidence (aCons (eVar 1) (aCons (eTup aNil) (aCons (eTup (aCons (eC (.str "ann")) aNil)) aNil)))) aNil))) (gSlot 6)) (bCons (sIf (tBin opNe (eVar 6) (eLst (aCons (eTup (aCons (eTup (aCons (eC (.int 3)) aNil)) (aCons (eTup (aCons (eC (.int 3)) aNil)) aNil))) (aCons (eTup (aCons (eC (.int 3)) (aCons (eC (.int 1)) aNil))) (aCons (eTup (aCons (eC (.int 3)) (aCons (eC (.int 2)) aNil))) aNil))))) (sRet (eC (.bl false))) bNil) (sRet (eBin opEq (eCall f_evidence (aCons (eVar 1) (aCons (eTup (aCons (eC (.str "odd")) aNil)) (aCons (eTup (aCons (eC (.str "ann")) (aCons (eC (.str "bob")) aNil))) aNil)))) (eTup (aCons (eC (.int 3)) (aCons (eC (.int 3)) (aCons (eC (.int 1)) aNil)))))))))))))))))))))))))
theorem sc_law_knowing_right : FnScope ["_law_worth", "_law_scene_here", "_law_rows", "_law_said", "_law_due", "_law_chain", "_law_found"] ["_law_worth"] (defScope s_law_knowing_right) := ⟨rfl, rfl, rfl, by decide +kernel, rfl, by decide +kernel, by decide +kernel⟩
theorem ok_law_knowing_right (T : Txt K mg Γ Φ Ψ) : FnF Γ P w K mg base 9 (Φ 80) f_law_knowing_right := by
  obtain ⟨fd, hF, hb⟩ := T.F_law_knowing_right
  refine fn_body hF sc_law_knowing_right hb (by decide) fun cdv A outer s H E hr => ?_
  exact (b_cons (s_set sc_law_knowing_right.nd rfl (s_call (ok_law_scene T) (hr.mono (by decide)) (pz_of (takes_of rfl rfl rfl rfl)) (by rfl) T.m_law_scene T.kp_law_scene (a_cons (s_var rfl) (a_cons (s_lst (a_cons (s_tup (a_cons (s_tup (a_cons s_str a_nil)) (a_cons s_bl a_nil))) a_nil)) a_nil)))) (b_cons (s_set sc_law_knowing_right.nd rfl (s_lst (a_cons (s_tup (a_cons (s_tup a_nil) (a_cons (s_tup (a_cons s_int (a_cons s_int (a_cons s_int (a_cons s_int a_nil))))) a_nil))) (a_cons (s_tup (a_cons (s_tup (a_cons s_str a_nil)) (a_cons (s_tup (a_cons s_int (a_cons s_int a_nil))) a_nil))) (a_cons (s_tup (a_cons (s_tup (a_cons s_str a_nil)) (a_cons (s_tup (a_cons s_int (a_cons s_int a_nil))) a_nil))) a_nil))))) (b_cons (s_set sc_law_knowing_right.nd rfl (s_bin ok_add (s_var rfl) (s_lst (a_cons (s_tup (a_cons (s_tup (a_cons s_str (a_cons s_str a_nil))) (a_cons (s_tup (a_cons s_int a_nil)) a_nil))) (a_cons (s_tup (a_cons (s_tup (a_cons s_str a_nil)) (a_cons (s_tup (a_cons s_int (a_cons s_int (a_cons s_int a_nil)))) a_nil))) (a_cons (s_tup (a_cons (s_tup (a_cons s_str (a_cons s_str a_nil))) (a_cons (s_tup (a_cons s_int (a_cons s_int a_nil))) a_nil))) a_nil)))))) (b_cons (s_if (t_not (t_truth (s_callB (cr_all rfl) rd_all (by rfl) T.n_all (by decide +kernel) (a_cons (s_lc (own := [("_law_said", 3), ("_law_due", 4)]) rfl sc_law_knowing_right.nd (i_any (s_var rfl)) (blkOk_by (N := ["_law_worth", "_law_scene_here", "_law_rows", "_law_said", "_law_due", "_law_chain", "_law_found"]) (sc := defScope s_law_knowing_right) (by decide +kernel)) (by decide) (fun s H C cl fp => (pgN2 rfl sc_law_knowing_right.nd rfl rfl)) (fun s H C cl fp => ts_nil) (fun s H C cl fp => (s_cmp (ok_eq (hu64 hr)) (s_callO T.co_Scene (ok_Scene_call T) (hr.mono (by decide)) pz0 (s_var rfl) (a_cons (s_var rfl) a_nil)) (s_var rfl) (nomark _)))) a_nil)))) (b_one (s_ret s_bl)) b_nil) (b_cons (s_if (t_cmp (ok_ne (hu64 hr)) (s_meth T.cl_Scene T.me_Scene_cost (ok_Scene_cost T) (hr.mono (by decide)) (pz_of (takes_of rfl rfl rfl rfl)) (s_var rfl) (a_cons s_str a_nil)) (s_var rfl) (nomark _)) (b_one (s_ret s_bl)) b_nil) (b_cons (s_if (t_cmp (ok_ne (hu64 hr)) (s_call (ok_set_cost T) (hr.mono (by decide)) (pz_of (takes_of rfl rfl rfl rfl)) (by rfl) T.m_set_cost T.kp_set_cost (a_cons (s_var rfl) (a_cons (s_tup (a_cons s_str (a_cons s_str (a_cons s_str a_nil)))) a_nil))) (s_bin ok_add (s_bin ok_mul s_int (s_var rfl)) s_int) (nomark _)) (b_one (s_ret s_bl)) b_nil) (b_cons (s_set sc_law_knowing_right.nd rfl (s_lst (a_cons (s_tup (a_cons (s_tup a_nil) (a_cons (s_tup (a_cons s_str a_nil)) (a_cons s_bl a_nil)))) (a_cons (s_tup (a_cons (s_tup a_nil) (a_cons (s_tup (a_cons s_str a_nil)) (a_cons s_bl a_nil)))) (a_cons (s_tup (a_cons (s_tup (a_cons s_str a_nil)) (a_cons (s_tup (a_cons s_str a_nil)) (a_cons s_bl a_nil)))) a_nil))))) (b_cons (s_set sc_law_knowing_right.nd rfl (s_bin ok_add (s_var rfl) (s_lst (a_cons (s_tup (a_cons (s_tup (a_cons s_str a_nil)) (a_cons (s_tup (a_cons s_str a_nil)) (a_cons s_bl a_nil)))) (a_cons (s_tup (a_cons (s_tup (a_cons s_str a_nil)) (a_cons (s_tup (a_cons s_str a_nil)) (a_cons s_bl a_nil)))) a_nil))))) (b_cons (s_set sc_law_knowing_right.nd rfl (s_bin ok_add (s_var rfl) (s_lst (a_cons (s_tup (a_cons (s_tup (a_cons s_str a_nil)) (a_cons (s_tup (a_cons s_str a_nil)) (a_cons s_bl a_nil)))) (a_cons (s_tup (a_cons (s_tup (a_cons s_str a_nil)) (a_cons (s_tup (a_cons s_str a_nil)) (a_cons s_bl a_nil)))) a_nil))))) (b_cons (s_set sc_law_knowing_right.nd rfl (s_bin ok_add (s_var rfl) (s_lst (a_cons (s_tup (a_cons (s_tup (a_cons s_str (a_cons s_str a_nil))) (a_cons (s_tup (a_cons s_str a_nil)) (a_cons s_bl a_nil)))) a_nil)))) (b_cons (s_set sc_law_knowing_right.nd rfl (s_bin ok_add (s_var rfl) (s_lst (a_cons (s_tup (a_cons (s_tup (a_cons s_str a_nil)) (a_cons (s_tup (a_cons s_str (a_cons s_str a_nil))) (a_cons s_bl a_nil)))) (a_cons (s_tup (a_cons (s_tup (a_cons s_str a_nil)) (a_cons (s_tup (a_cons s_str (a_cons s_str a_nil))) (a_cons s_bl a_nil)))) a_nil))))) (b_cons (s_set sc_law_knowing_right.nd rfl (s_bin ok_add (s_var rfl) (s_lst (a_cons (s_tup (a_cons (s_tup (a_cons s_str a_nil)) (a_cons (s_tup (a_cons s_str (a_cons s_str a_nil))) (a_cons s_bl a_nil)))) a_nil)))) (b_cons (s_set sc_law_knowing_right.nd rfl (s_bin ok_add (s_var rfl) (s_lst (a_cons (s_tup (a_cons (s_tup (a_cons s_str (a_cons s_str a_nil))) (a_cons (s_tup (a_cons s_str (a_cons s_str (a_cons s_str a_nil)))) (a_cons s_bl a_nil)))) a_nil)))) (b_cons (s_set sc_law_knowing_right.nd rfl (s_bin ok_add (s_var rfl) (s_lst (a_cons (s_tup (a_cons (s_tup (a_cons s_str a_nil)) (a_cons (s_tup (a_cons s_str a_nil)) (a_cons s_bl a_nil)))) (a_cons (s_tup (a_cons (s_tup (a_cons s_str a_nil)) (a_cons (s_tup (a_cons s_str a_nil)) (a_cons s_bl a_nil)))) a_nil))))) (b_cons (s_set sc_law_knowing_right.nd rfl (s_bin ok_add (s_var rfl) (s_lst (a_cons (s_tup (a_cons (s_tup (a_cons s_str a_nil)) (a_cons (s_tup (a_cons s_str (a_cons s_str a_nil))) (a_cons s_bl a_nil)))) (a_cons (s_tup (a_cons (s_tup (a_cons s_str a_nil)) (a_cons (s_tup (a_cons s_str (a_cons s_str (a_cons s_str a_nil)))) (a_cons s_bl a_nil)))) a_nil))))) (b_cons (s_for (passes_of rfl) rfl (i_any (s_var rfl)) (g_tup rfl (gs_cons (g_slot sc_law_knowing_right.nd rfl) (gs_cons (g_slot sc_law_knowing_right.nd rfl) (gs_cons (g_slot sc_law_knowing_right.nd rfl) gs_nil)))) (b_one (s_if (t_cmp (ok_ne (hu64 hr)) (s_call (ok_holds T) (hr.mono (by decide)) (pz_of (takes_of rfl rfl rfl rfl)) (by rfl) T.m_holds T.kp_holds (a_cons (s_var rfl) (a_cons (s_var rfl) (a_cons (s_var rfl) a_nil)))) (s_var rfl) (nomark _)) (b_one (s_ret s_bl)) b_nil))) (b_cons (s_set sc_law_knowing_right.nd rfl (s_lst (a_cons (s_call (ok_evidence T) (hr.mono (by decide)) (pz_of (takes_of rfl rfl rfl rfl)) (by rfl) T.m_evidence T.kp_evidence (a_cons (s_var rfl) (a_cons (s_tup (a_cons s_str a_nil)) (a_cons (s_tup (a_cons s_str a_nil)) a_nil)))) (a_cons (s_call (ok_evidence T) (hr.mono (by decide)) (pz_of (takes_of rfl rfl rfl rfl)) (by rfl) T.m_evidence T.kp_evidence (a_cons (s_var rfl) (a_cons (s_tup (a_cons s_str a_nil)) (a_cons (s_tup (a_cons s_str a_nil)) a_nil)))) a_nil)))) (b_cons (s_set sc_law_knowing_right.nd rfl (s_bin ok_add (s_var rfl) (s_lst (a_cons (s_call (ok_evidence T) (hr.mono (by decide)) (pz_of (takes_of rfl rfl rfl rfl)) (by rfl) T.m_evidence T.kp_evidence (a_cons (s_var rfl) (a_cons (s_tup a_nil) (a_cons (s_tup (a_cons s_str a_nil)) a_nil)))) a_nil)))) (b_cons (s_if (t_cmp (ok_ne (hu64 hr)) (s_var rfl) (s_lst (a_cons (s_tup (a_cons (s_tup (a_cons s_int a_nil)) (a_cons (s_tup (a_cons s_int a_nil)) a_nil))) (a_cons (s_tup (a_cons s_int (a_cons s_int a_nil))) (a_cons (s_tup (a_cons s_int (a_cons s_int a_nil))) a_nil)))) (nomark _)) (b_one (s_ret s_bl)) b_nil) (b_one (s_ret (s_cmp (ok_eq (hu64 hr)) (s_call (ok_evidence T) (hr.mono (by decide)) (pz_of (takes_of rfl rfl rfl rfl)) (by rfl) T.m_evidence T.kp_evidence (a_cons (s_var rfl) (a_cons (s_tup (a_cons s_str a_nil)) (a_cons (s_tup (a_cons s_str (a_cons s_str a_nil))) a_nil)))) (s_tup (a_cons s_int (a_cons s_int (a_cons s_int a_nil)))) (nomark _)))))))))))))))))))))))

def f_law_evidence_right : Fd := runB 7 0 (bCons (sAsg (eCall f_law_scene (aCons (eC (.int 2)) (aCons (eLst (aCons (eTup (aCons (eTup (aCons (eC (.str "ann")) aNil)) (aCons (eC (.bl true)) aNil))) aNil)) aNil))) (gSlot 0)) (bCons (sAsg (eLst (aCons (eTup (aCons (eTup (aCons (eC (.str "odd")) aNil)) (aCons (eTup (aCons (eC (.str "ann")) aNil)) (aCons (eTup (aCons (eTup (aCons (eC (.int 3)) aNil)) (aCons (eTup (aCons (eC (.int 3)) aNil)) aNil))) (aCons (eC (.bl true)) aNil))))) aNil)) (gSlot 1)) (bCons (sAsg (eBin opAdd (eVar 1) (eLst (aCons (eTup (aCons (eTup (aCons (eC (.str "odd")) aNil)) (aCons (eTup (aCons (eC (.str "ann")) aNil)) (aCons (eTup (aCons (eTup (aCons (eC (.int 1)) (aCons (eC (.int 3)) aNil))) (aCons (eTup (aCons (eC (.int 3)) aNil)) aNil))) (aCons (eC (.bl false)) aNil))))) aNil))) (gSlot 1)) (bCons (sAsg (eBin opAdd (eVar 1) (eLst (aCons (eTup (aCons (eTup (aCons (eC (.str "odd")) aNil)) (aCons (eTup (aCons (eC (.str "ann")) aNil)) (aCons (eTup (aCons (eTup (aCons (eC (.int 3)) aNil)) (aCons (eTup (aCons (eC (.int 1)) (aCons (eC (.int 3)) aNil))) aNil))) (aCons (eC (.bl false)) aNil))))) aNil))) (gSlot 1)) (bCons (sAsg (eBin opAdd (eVar 1) (eLst (aCons (eTup (aCons (eTup (aCons (eC (.str "odd")) aNil)) (aCons (eTup (aCons (eC (.str "ann")) aNil)) (aCons (eTup (aCons (eTup (aCons (eC (.int 3)) aNil)) aNil)) (aCons (eC (.bl false)) aNil))))) aNil))) (gSlot 1)) (bCons (sAsg (eBin opAdd (eVar 1) (eLst (aCons (eTup (aCons (eTup (aCons (eC (.str "odd")) aNil)) (aCons (eTup (aCons (eC (.str "ann")) aNil)) (aCons (eTup (aCons (eTup aNil) (aCons (eTup (aCons (eC (.int 3)) aNil)) aNil))) (aCons (eC (.bl false)) aNil))))) aNil))) (gSlot 1)) (bCons (sAsg (eBin opAdd (eVar 1) (eLst (aCons (eTup (aCons (eTup (aCons (eC (.str "odd")) aNil)) (aCons (eTup (aCons (eC (.str "ann")) aNil)) (aCons (eTup (aCons (eTup (aCons (eC (.int 3)) aNil)) (aCons (eTup aNil) aNil))) (aCons (eC (.bl false)) aNil))))) aNil))) (gSlot 1)) (bCons (sAsg (eBin opAdd (eVar 1) (eLst (aCons (eTup (aCons (eTup aNil) (aCons (eTup (aCons (eC (.str "ann")) aNil)) (aCons (eTup (aCons (eTup (aCons (eC (.int 3)) aNil)) (aCons (eTup (aCons (eC (.int 3)) aNil)) aNil))) (aCons (eC (.bl false)) aNil))))) (aCons (eTup (aCons (eTup aNil) (aCons (eTup (aCons (eC (.str "ann")) aNil)) (aCons (eTup (aCons (eTup (aCons (eC (.int 3)) aNil)) (aCons (eTup (aCons (eC (.int 2)) (aCons (eC (.int 3)) aNil))) aNil))) (aCons (eC (.bl false)) aNil))))) aNil)))) (gSlot 1)) (bCons (sAsg (eBin opAdd (eVar 1) (eLst (aCons (eTup (aCons (eTup (aCons (eC (.str "odd")) (aCons (eC (.str "late")) aNil))) (aCons (eTup (aCons (eC (.str "cy")) (aCons (eC (.str "bob")) aNil))) (aCons (eTup (aCons (eTup (aCons (eC (.int 3)) aNil)) (aCons (eTup (aCons (eC (.int 3)) aNil)) (aCons (eTup (aCons (eC (.int 3)) aNil)) aNil)))) (aCons (eC (.bl true)) aNil))))) aNil))) (gSlot 1)) (bCons (sAsg (eBin opAdd (eVar 1) (eLst (aCons (eTup (aCons (eTup (aCons (eC (.str "odd")) (aCons (eC (.str "late")) aNil))) (aCons (eTup (aCons (eC (.str "cy")) (aCons (eC (.str "bob")) aNil))) (aCons (eTup (aCons (eTup (aCons (eC (.int 3)) aNil)) (aCons (eTup (aCons (eC (.int 3)) aNil)) aNil))) (aCons (eC (.bl false)) aNil))))) aNil))) (gSlot 1)) (bCons (sAsg (eBin opAdd (eVar 1) (eLst (aCons (eTup (aCons (eTup (aCons (eC (.str "odd")) (aCons (eC (.str "late")) aNil))) (aCons (eTup (aCons (eC (.str "cy")) aNil)) (aCons (eTup (aCons (eTup (aCons (eC (.int 3)) aNil)) (aCons (eTup (aCons (eC (.int 2)) (aCons (eC (.int 3)) aNil))) aNil))) (aCons (eC (.bl false)) aNil))))) aNil))) (gSlot 1)) (bCons (sAsg (eBin opAdd (eVar 1) (eLst (aCons (eTup (aCons (eTup (aCons (eC (.str "odd")) aNil)) (aCons (eTup (aCons (eC (.str "ann")) aNil)) (aCons (eTup (aCons (eTup (aCons (eC (.int 3)) (aCons (eC (.int 3)) aNil))) (aCons (eTup (aCons (eC (.int 3)) aNil)) aNil))) (aCons (eC (.bl false)) aNil))))) aNil))) (gSlot 1)) (bCons (sFor (iAny (eVar 1)) (gTup [(gSlot 2), (gSlot 3), (gSlot 4), (gSlot 5)]) (sIf (tBin opNe (eCall f_is_circle (aCons (eVar 0) (aCons (eVar 2) (aCons (eVar 3) (aCons (eVar 4) aNil))))) (eVar 5)) (sRet (eC (.bl false))) bNil)) (bCons (sAsg (eFz (eCall (mkC 1 f_Scene_init) (aCons (eC (.int 4)) (aCons (eC (.int 1)) (aCons (eDispK (pCons (eC (.str "ann")) (eTup (aCons (eC (.int 0)) (aCons (eC (.int 1)) (aCons (eC (.int 1)) (aCons (eC (.int 2)) aNil))))) pNil)) (aCons (eFz (eCall (mkC 0 f_Claim_init) (aCons (eC (.int 4)) (aCons (eC (.int 1)) (aCons (eC (.int 2)) (aCons (eC (.int 3)) aNil)))))) (aCons eDisp0 (aCons (eLst (aCons (eTup (aCons (eTup (aCons (eC (.str "ann")) aNil)) (aCons (eC (.bl true)) aNil))) aNil)) aNil)))))))) (gSlot 6)) (bCons (sAsg (eLst (aCons (eTup (aCons (eTup (aCons (eTup (aCons (eC (.int 1)) aNil)) (aCons (eTup (aCons (eC (.int 1)) (aCons (eC (.int 2)) aNil))) aNil))) (aCons (eC (.bl true)) aNil))) (aCons (eTup (aCons (eTup (aCons (eTup (aCons (eC (.int 1)) (aCons (eC (.int 2)) aNil))) (aCons (eTup (aCons (eC (.int 1)) (aCons (eC (.int 2)) aNil))) aNil))) (aCons (eC (.bl true)) aNil))) aNil))) (gSlot 1)) (bCons (sAsg (eBin opAdd (eVar 1) (eLst (aCons (eTup (aCons (eTup (aCons (eTup (aCons (eC (.int 1)) (aCons (eC (.int 3)) aNil))) (aCons (eTup (aCons (eC (.int 1)) (aCons (eC (.int 2)) (aCons (eC (.int 3)) aNil)))) aNil))) (aCons (eC (.bl true)) aNil))) (aCons (eTup (aCons (eTup (aCons (eTup (aCons (eC (.int 1)) aNil)) (aCons (eTup (aCons (eC (.int 1)) (aCons (eC (.int 2)) (aCons (eC (.int 3)) aNil)))) aNil))) (aCons (eC (.bl true)) aNil))) aNil)))) (gSlot 1)) (bCons (sAsg (eBin opAdd (eVar 1) (eLst (aCons (eTup (aCons (eTup (aCons (eTup (aCons (eC (.int 1)) aNil)) (aCons (eTup (aCons (eC (.int 1)) aNil)) aNil))) (aCons (eC (.bl false)) aNil))) (aCons (eTup (aCons (eTup (aCons (eTup (aCons (eC (.int 1)) (aCons (eC (.int 0)) aNil))) (aCons (eTup (aCons (eC (.int 1)) (aCons (eC (.int 2)) aNil))) aNil))) (aCons (eC (.bl false)) aNil))) aNil)))) (gSlot 1)) (bCons (sAsg (eBin opAdd (eVar 1) (eLst (aCons (eTup (aCons (eTup (aCons (eTup (aCons (eC (.int 0)) (aCons (eC (.int 1)) aNil))) (aCons (eTup (aCons (eC (.int 0)) (aCons (eC (.int 1)) (aCons (eC (.int 2)) aNil)))) aNil))) (aCons (eC (.bl false)) aNil))) (aCons (eTup (aCons (eTup (aCons (eTup (aCons (eC (.int 2)) aNil)) (aCons (eTup (aCons (eC (.int 1)) (aCons (eC (.int 2)) aNil))) aNil))) (aCons (eC (.bl false)) aNil))) aNil)))) (gSlot 1)) (bCons (sIf (tNot (eTru (eCall opAll (aCons (eLc (iAny (eVar 1)) (.tup [4, 5]) tYesD (eBin opEq (eCall f_is_circle (aCons (eVar 6) (aCons (eTup aNil) (aCons (eTup (aCons (eC (.str "ann")) aNil)) (aCons (eVar 4) aNil))))) (eVar 5)) [4, 5]) aNil)))) (sRet (eC (.bl false))) bNil) (bCons (sAsg (eLst (aCons (eTup (aCons (eTup aNil) (aCons (eTup (aCons (eC (.str "ann")) aNil)) (aCons (eTup (aCons (eC (.int 3)) (aCons (eC (.int 2)) aNil))) (aCons (eC (.bl true)) aNil))))) (aCons (eTup (aCons (eTup aNil) (aCons (eTup (aCons (eC (.str "ann")) aNil)) (aCons (eTup (aCons (eC (.int 3)) (aCons (eC (.int 1)) aNil))) (aCons (eC (.bl false)) aNil))))) aNil))) (gSlot 1)) (bCons (sAsg (eBin opAdd (eVar 1) (eLst (aCons (eTup (aCons (eTup aNil) (aCons (eTup (aCons (eC (.str "ann")) aNil)) (aCons (eTup (aCons (eC (.int 2)) (aCons (eC (.int 2)) aNil))) (aCons (eC (.bl false)) aNil))))) (aCons (eTup (aCons (eTup aNil) (aCons (eTup (aCons (eC (.str "ann")) aNil)) (aCons (eTup (aCons (eC (.int 3)) (aCons (eC (.int 3)) aNil))) (aCons (eC (.bl false)) aNil))))) aNil)))) (gSlot 1)) (bCons (sAsg (eBin opAdd (eVar 1) (eLst (aCons (eTup (aCons (eTup aNil) (aCons (eTup (aCons (eC (.str "ann")) (aCons (eC (.str "bob")) aNil))) (aCons (eTup (aCons (eC (.int 3)) (aCons (eC (.int 2)) (aCons (eC (.int 0)) aNil)))) (aCons (eC (.bl true)) aNil))))) aNil))) (gSlot 1)) (bCons (sAsg (eBin opAdd (eVar 1) (eLst (aCons (eTup (aCons (eTup aNil) (aCons (eTup (aCons (eC (.str "ann")) (aCons (eC (.str "bob")) aNil))) (aCons (eTup (aCons (eC (.int 3)) (aCons (eC (.int 2)) (aCons (eC (.int 2)) aNil)))) (aCons (eC (.bl true)) aNil))))) aNil))) (gSlot 1)) (bCons (sAsg (eBin opAdd (eVar 1) (eLst (aCons (eTup (aCons (eTup aNil) (aCons (eTup (aCons (eC (.str "ann")) (aCons (eC (.str "bob")) aNil))) (aCons (eTup (aCons (eC (.int 3)) (aCons (eC (.int 2)) (aCons (eC (.int 3)) aNil)))) (aCons (eC (.bl false)) aNil))))) aNil))) (gSlot 1)) (bCons (sAsg (eBin opAdd (eVar 1) (eLst (aCons (eTup (aCons (eTup (aCons (eC (.str "some")) aNil)) (aCons (eTup (aCons (eC (.str "ann")) (aCons (eC (.str "bob")) aNil))) (aCons (eTup (aCons (eC (.int 3)) (aCons (eC (.int 2)) (aCons (eC (.int 0)) aNil)))) (aCons (eC (.bl false)) aNil))))) (aCons (eTup (aCons (eTup aNil) (aCons (eTup (aCons (eC (.str "ann")) aNil)) (aCons (eTup (aCons (eC (.int 3)) aNil)) (aCons (eC (.bl false)) aNil))))) aNil)))) (gSlot 1)) (bCons (sAsg (eBin opAdd (eVar 1) (eLst (aCons (eTup (aCons (eTup aNil) (aCons (eTup (aCons (eC (.str "ann")) aNil)) (aCons (eTup (aCons (eC (.int 3)) (aCons (eC (.int 2)) (aCons (eC (.int 2)) aNil)))) (aCons (eC (.bl false)) aNil))))) aNil))) (gSlot 1)) (bCons (sAsg (eBin opAdd (eVar 1) (eLst (aCons (eTup (aCons (eTup (aCons (eC (.str "odd")) aNil)) (aCons (eTup (aCons (eC (.str "cy")) (aCons (eC (.str "bob")) aNil))) (aCons (eTup (aCons (eC (.int 3)) (aCons (eC (.int 1)) (aCons (eC (.int 1)) aNil)))) (aCons (eC (.bl true)) aNil))))) aNil))) (gSlot 1)) (bCons (sAsg (eBin opAdd (eVar 1) (eLst (aCons (eTup (aCons (eTup (aCons (eC (.str "odd")) aNil)) (aCons (eTup (aCons (eC (.str "bob")) (aCons (eC (.str "cy")) (aCons (eC (.str "ann")) aNil)))) (aCons (eTup (aCons (eC (.int 3)) (aCons (eC (.int 3)) (aCons (eC (.int 1)) (aCons (eC (.int 1)) aNil))))) (aCons (eC (.bl true)) aNil))))) aNil))) (gSlot 1)) (bCons (sAsg (eBin opAdd (eVar 1) (eLst (aCons (eTup (aCons (eTup aNil) (aCons (eTup (aCons (eC (.str "ann")) aNil)) (aCons (eTup aNil) (aCons (eC (.bl false)) aNil))))) aNil))) (gSlot 1)) (sRet (eCall opAll (aCons (eLc (iAny (eVar 1)) (.tup [2, 3, 4, 5]) tYesD (eBin opEq (eCall f_is_path (aCons (eVar 0) (aCons (eVar 2) (aCons (eVar 3) (aCons (eVar 4) aNil))))) (eVar 5)) [2, 3, 4, 5]) aNil))))))))))))))))))))))))))))))))
theorem sc_law_evidence_right : FnScope ["_law_scene_here", "_law_rows", "_law_said", "_law_chain", "_law_found", "_law_due", "_law_wide"] [] (defScope s_law_evidence_right) := ⟨rfl, rfl, rfl, by decide +kernel, rfl, by decide +kernel, by decide +kernel⟩
theorem ok_law_evidence_right (T : Txt K mg Γ Φ Ψ) : FnF Γ P w K mg base 9 (Φ 81) f_law_evidence_right := by
  obtain ⟨fd, hF, hb⟩ := T.F_law_evidence_right
  refine fn_body hF sc_law_evidence_right hb (by decide) fun cdv A outer s H E hr => ?_
  exact (b_cons (s_set sc_law_evidence_right.nd rfl (s_call (ok_law_scene T) (hr.mono (by decide)) (pz_of (takes_of rfl rfl rfl rfl)) (by rfl) T.m_law_scene T.kp_law_scene (a_cons s_int (a_cons (s_lst (a_cons (s_tup (a_cons (s_tup (a_cons s_str a_nil)) (a_cons s_bl a_nil))) a_nil)) a_nil)))) (b_cons (s_set sc_law_evidence_right.nd rfl (s_lst (a_cons (s_tup (a_cons (s_tup (a_cons s_str a_nil)) (a_cons (s_tup (a_cons s_str a_nil)) (a_cons (s_tup (a_cons (s_tup (a_cons s_int a_nil)) (a_cons (s_tup (a_cons s_int a_nil)) a_nil))) (a_cons s_bl a_nil))))) a_nil))) (b_cons (s_set sc_law_evidence_right.nd rfl (s_bin ok_add (s_var rfl) (s_lst (a_cons (s_tup (a_cons (s_tup (a_cons s_str a_nil)) (a_cons (s_tup (a_cons s_str a_nil)) (a_cons (s_tup (a_cons (s_tup (a_cons s_int (a_cons s_int a_nil))) (a_cons (s_tup (a_cons s_int a_nil)) a_nil))) (a_cons s_bl a_nil))))) a_nil)))) (b_cons (s_set sc_law_evidence_right.nd rfl (s_bin ok_add (s_var rfl) (s_lst (a_cons (s_tup (a_cons (s_tup (a_cons s_str a_nil)) (a_cons (s_tup (a_cons s_str a_nil)) (a_cons (s_tup (a_cons (s_tup (a_cons s_int a_nil)) (a_cons (s_tup (a_cons s_int (a_cons s_int a_nil))) a_nil))) (a_cons s_bl a_nil))))) a_nil)))) (b_cons (s_set sc_law_evidence_right.nd rfl (s_bin ok_add (s_var rfl) (s_lst (a_cons (s_tup (a_cons (s_tup (a_cons s_str a_nil)) (a_cons (s_tup (a_cons s_str a_nil)) (a_cons (s_tup (a_cons (s_tup (a_cons s_int a_nil)) a_nil)) (a_cons s_bl a_nil))))) a_nil)))) (b_cons (s_set sc_law_evidence_right.nd rfl (s_bin ok_add (s_var rfl) (s_lst (a_cons (s_tup (a_cons (s_tup (a_cons s_str a_nil)) (a_cons (s_tup (a_cons s_str a_nil)) (a_cons (s_tup (a_cons (s_tup a_nil) (a_cons (s_tup (a_cons s_int a_nil)) a_nil))) (a_cons s_bl a_nil))))) a_nil)))) (b_cons (s_set sc_law_evidence_right.nd rfl (s_bin ok_add (s_var rfl) (s_lst (a_cons (s_tup (a_cons (s_tup (a_cons s_str a_nil)) (a_cons (s_tup (a_cons s_str a_nil)) (a_cons (s_tup (a_cons (s_tup (a_cons s_int a_nil)) (a_cons (s_tup a_nil) a_nil))) (a_cons s_bl a_nil))))) a_nil)))) (b_cons (s_set sc_law_evidence_right.nd rfl (s_bin ok_add (s_var rfl) (s_lst (a_cons (s_tup (a_cons (s_tup a_nil) (a_cons (s_tup (a_cons s_str a_nil)) (a_cons (s_tup (a_cons (s_tup (a_cons s_int a_nil)) (a_cons (s_tup (a_cons s_int a_nil)) a_nil))) (a_cons s_bl a_nil))))) (a_cons (s_tup (a_cons (s_tup a_nil) (a_cons (s_tup (a_cons s_str a_nil)) (a_cons (s_tup (a_cons (s_tup (a_cons s_int a_nil)) (a_cons (s_tup (a_cons s_int (a_cons s_int a_nil))) a_nil))) (a_cons s_bl a_nil))))) a_nil))))) (b_cons (s_set sc_law_evidence_right.nd rfl (s_bin ok_add (s_var rfl) (s_lst (a_cons (s_tup (a_cons (s_tup (a_cons s_str (a_cons s_str a_nil))) (a_cons (s_tup (a_cons s_str (a_cons s_str a_nil))) (a_cons (s_tup (a_cons (s_tup (a_cons s_int a_nil)) (a_cons (s_tup (a_cons s_int a_nil)) (a_cons (s_tup (a_cons s_int a_nil)) a_nil)))) (a_cons s_bl a_nil))))) a_nil)))) (b_cons (s_set sc_law_evidence_right.nd rfl (s_bin ok_add (s_var rfl) (s_lst (a_cons (s_tup (a_cons (s_tup (a_cons s_str (a_cons s_str a_nil))) (a_cons (s_tup (a_cons s_str (a_cons s_str a_nil))) (a_cons (s_tup (a_cons (s_tup (a_cons s_int a_nil)) (a_cons (s_tup (a_cons s_int a_nil)) a_nil))) (a_cons s_bl a_nil))))) a_nil)))) (b_cons (s_set sc_law_evidence_right.nd rfl (s_bin ok_add (s_var rfl) (s_lst (a_cons (s_tup (a_cons (s_tup (a_cons s_str (a_cons s_str a_nil))) (a_cons (s_tup (a_cons s_str a_nil)) (a_cons (s_tup (a_cons (s_tup (a_cons s_int a_nil)) (a_cons (s_tup (a_cons s_int (a_cons s_int a_nil))) a_nil))) (a_cons s_bl a_nil))))) a_nil)))) (b_cons (s_set sc_law_evidence_right.nd rfl (s_bin ok_add (s_var rfl) (s_lst (a_cons (s_tup (a_cons (s_tup (a_cons s_str a_nil)) (a_cons (s_tup (a_cons s_str a_nil)) (a_cons (s_tup (a_cons (s_tup (a_cons s_int (a_cons s_int a_nil))) (a_cons (s_tup (a_cons s_int a_nil)) a_nil))) (a_cons s_bl a_nil))))) a_nil)))) (b_cons (s_for (passes_of rfl) rfl (i_any (s_var rfl)) (g_tup rfl (gs_cons (g_slot sc_law_evidence_right.nd rfl) (gs_cons (g_slot sc_law_evidence_right.nd rfl) (gs_cons (g_slot sc_law_evidence_right.nd rfl) (gs_cons (g_slot sc_law_evidence_right.nd rfl) gs_nil))))) (b_one (s_if (t_cmp (ok_ne (hu64 hr)) (s_call (ok_is_circle T) (hr.mono (by decide)) (pz_of (takes_of rfl rfl rfl rfl)) (by rfl) T.m_is_circle T.kp_is_circle (a_cons (s_var rfl) (a_cons (s_var rfl) (a_cons (s_var rfl) (a_cons (s_var rfl) a_nil))))) (s_var rfl) (nomark _)) (b_one (s_ret s_bl)) b_nil))) (b_cons (s_set sc_law_evidence_right.nd rfl (s_fz (s_make T.mk_Scene (ok_Scene_init T) (hr.mono (by decide)) (pz_of (takes_of rfl rfl rfl rfl)) (by rfl) T.c_Scene (a_cons s_int (a_cons s_int (a_cons (s_dispK (p_cons s_str (s_tup (a_cons s_int (a_cons s_int (a_cons s_int (a_cons s_int a_nil))))) p_nil)) (a_cons (s_fz (s_make T.mk_Claim (ok_Claim_init T) (hr.mono (by decide)) (pz_of (takes_of rfl rfl rfl rfl)) (by rfl) T.c_Claim (a_cons s_int (a_cons s_int (a_cons s_int (a_cons s_int a_nil)))))) (a_cons s_disp0 (a_cons (s_lst (a_cons (s_tup (a_cons (s_tup (a_cons s_str a_nil)) (a_cons s_bl a_nil))) a_nil)) a_nil))))))))) (b_cons (s_set sc_law_evidence_right.nd rfl (s_lst (a_cons (s_tup (a_cons (s_tup (a_cons (s_tup (a_cons s_int a_nil)) (a_cons (s_tup (a_cons s_int (a_cons s_int a_nil))) a_nil))) (a_cons s_bl a_nil))) (a_cons (s_tup (a_cons (s_tup (a_cons (s_tup (a_cons s_int (a_cons s_int a_nil))) (a_cons (s_tup (a_cons s_int (a_cons s_int a_nil))) a_nil))) (a_cons s_bl a_nil))) a_nil)))) (b_cons (s_set sc_law_evidence_right.nd rfl (s_bin ok_add (s_var rfl) (s_lst (a_cons (s_tup (a_cons (s_tup (a_cons (s_tup (a_cons s_int (a_cons s_int a_nil))) (a_cons (s_tup (a_cons s_int (a_cons s_int (a_cons s_int a_nil)))) a_nil))) (a_cons s_bl a_nil))) (a_cons (s_tup (a_cons (s_tup (a_cons (s_tup (a_cons s_int a_nil)) (a_cons (s_tup (a_cons s_int (a_cons s_int (a_cons s_int a_nil)))) a_nil))) (a_cons s_bl a_nil))) a_nil))))) (b_cons (s_set sc_law_evidence_right.nd rfl (s_bin ok_add (s_var rfl) (s_lst (a_cons (s_tup (a_cons (s_tup (a_cons (s_tup (a_cons s_int a_nil)) (a_cons (s_tup (a_cons s_int a_nil)) a_nil))) (a_cons s_bl a_nil))) (a_cons (s_tup (a_cons (s_tup (a_cons (s_tup (a_cons s_int (a_cons s_int a_nil))) (a_cons (s_tup (a_cons s_int (a_cons s_int a_nil))) a_nil))) (a_cons s_bl a_nil))) a_nil))))) (b_cons (s_set sc_law_evidence_right.nd rfl (s_bin ok_add (s_var rfl) (s_lst (a_cons (s_tup (a_cons (s_tup (a_cons (s_tup (a_cons s_int (a_cons s_int a_nil))) (a_cons (s_tup (a_cons s_int (a_cons s_int (a_cons s_int a_nil)))) a_nil))) (a_cons s_bl a_nil))) (a_cons (s_tup (a_cons (s_tup (a_cons (s_tup (a_cons s_int a_nil)) (a_cons (s_tup (a_cons s_int (a_cons s_int a_nil))) a_nil))) (a_cons s_bl a_nil))) a_nil))))) (b_cons (s_if (t_not (t_truth (s_callB (cr_all rfl) rd_all (by rfl) T.n_all (by decide +kernel) (a_cons (s_lc (own := [("_law_found", 4), ("_law_due", 5)]) rfl sc_law_evidence_right.nd (i_any (s_var rfl)) (blkOk_by (N := ["_law_scene_here", "_law_rows", "_law_said", "_law_chain", "_law_found", "_law_due", "_law_wide"]) (sc := defScope s_law_evidence_right) (by decide +kernel)) (by decide) (fun s H C cl fp => (pgN2 rfl sc_law_evidence_right.nd rfl rfl)) (fun s H C cl fp => ts_nil) (fun s H C cl fp => (s_cmp (ok_eq (hu64 hr)) (s_call (ok_is_circle T) (hr.mono (by decide)) pz0 (by rfl) T.m_is_circle T.kp_is_circle (a_cons (s_var rfl) (a_cons (s_tup a_nil) (a_cons (s_tup (a_cons s_str a_nil)) (a_cons (s_var rfl) a_nil))))) (s_var rfl) (nomark _)))) a_nil)))) (b_one (s_ret s_bl)) b_nil) (b_cons (s_set sc_law_evidence_right.nd rfl (s_lst (a_cons (s_tup (a_cons (s_tup a_nil) (a_cons (s_tup (a_cons s_str a_nil)) (a_cons (s_tup (a_cons s_int (a_cons s_int a_nil))) (a_cons s_bl a_nil))))) (a_cons (s_tup (a_cons (s_tup a_nil) (a_cons (s_tup (a_cons s_str a_nil)) (a_cons (s_tup (a_cons s_int (a_cons s_int a_nil))) (a_cons s_bl a_nil))))) a_nil)))) (b_cons (s_set sc_law_evidence_right.nd rfl (s_bin ok_add (s_var rfl) (s_lst (a_cons (s_tup (a_cons (s_tup a_nil) (a_cons (s_tup (a_cons s_str a_nil)) (a_cons (s_tup (a_cons s_int (a_cons s_int a_nil))) (a_cons s_bl a_nil))))) (a_cons (s_tup (a_cons (s_tup a_nil) (a_cons (s_tup (a_cons s_str a_nil)) (a_cons (s_tup (a_cons s_int (a_cons s_int a_nil))) (a_cons s_bl a_nil))))) a_nil))))) (b_cons (s_set sc_law_evidence_right.nd rfl (s_bin ok_add (s_var rfl) (s_lst (a_cons (s_tup (a_cons (s_tup a_nil) (a_cons (s_tup (a_cons s_str (a_cons s_str a_nil))) (a_cons (s_tup (a_cons s_int (a_cons s_int (a_cons s_int a_nil)))) (a_cons s_bl a_nil))))) a_nil)))) (b_cons (s_set sc_law_evidence_right.nd rfl (s_bin ok_add (s_var rfl) (s_lst (a_cons (s_tup (a_cons (s_tup a_nil) (a_cons (s_tup (a_cons s_str (a_cons s_str a_nil))) (a_cons (s_tup (a_cons s_int (a_cons s_int (a_cons s_int a_nil)))) (a_cons s_bl a_nil))))) a_nil)))) (b_cons (s_set sc_law_evidence_right.nd rfl (s_bin ok_add (s_var rfl) (s_lst (a_cons (s_tup (a_cons (s_tup a_nil) (a_cons (s_tup (a_cons s_str (a_cons s_str a_nil))) (a_cons (s_tup (a_cons s_int (a_cons s_int (a_cons s_int a_nil)))) (a_cons s_bl a_nil))))) a_nil)))) (b_cons (s_set sc_law_evidence_right.nd rfl (s_bin ok_add (s_var rfl) (s_lst (a_cons (s_tup (a_cons (s_tup (a_cons s_str a_nil)) (a_cons (s_tup (a_cons s_str (a_cons s_str a_nil))) (a_cons (s_tup (a_cons s_int (a_cons s_int (a_cons s_int a_nil)))) (a_cons s_bl a_nil))))) (a_cons (s_tup (a_cons (s_tup a_nil) (a_cons (s_tup (a_cons s_str a_nil)) (a_cons (s_tup (a_cons s_int a_nil)) (a_cons s_bl a_nil))))) a_nil))))) (b_cons (s_set sc_law_evidence_right.nd rfl (s_bin ok_add (s_var rfl) (s_lst (a_cons (s_tup (a_cons (s_tup a_nil) (a_cons (s_tup (a_cons s_str a_nil)) (a_cons (s_tup (a_cons s_int (a_cons s_int (a_cons s_int a_nil)))) (a_cons s_bl a_nil))))) a_nil)))) (b_cons (s_set sc_law_evidence_right.nd rfl (s_bin ok_add (s_var rfl) (s_lst (a_cons (s_tup (a_cons (s_tup (a_cons s_str a_nil)) (a_cons (s_tup (a_cons s_str (a_cons s_str a_nil))) (a_cons (s_tup (a_cons s_int (a_cons s_int (a_cons s_int a_nil)))) (a_cons s_bl a_nil))))) a_nil)))) (b_cons (s_set sc_law_evidence_right.nd rfl (s_bin ok_add (s_var rfl) (s_lst (a_cons (s_tup (a_cons (s_tup (a_cons s_str a_nil)) (a_cons (s_tup (a_cons s_str (a_cons s_str (a_cons s_str a_nil)))) (a_cons (s_tup (a_cons s_int (a_cons s_int (a_cons s_int (a_cons s_int a_nil))))) (a_cons s_bl a_nil))))) a_nil)))) (b_cons (s_set sc_law_evidence_right.nd rfl (s_bin ok_add (s_var rfl) (s_lst (a_cons (s_tup (a_cons (s_tup a_nil) (a_cons (s_tup (a_cons s_str a_nil)) (a_cons (s_tup a_nil) (a_cons s_bl a_nil))))) a_nil)))) (b_one (s_ret (s_callB (cr_all rfl) rd_all (by rfl) T.n_all (by decide +kernel) (a_cons (s_lc (own := [("_law_said", 2), ("_law_chain", 3), ("_law_found", 4), ("_law_due", 5)]) rfl sc_law_evidence_right.nd (i_any (s_var rfl)) (blkOk_by (N := ["_law_scene_here", "_law_rows", "_law_said", "_law_chain", "_law_found", "_law_due", "_law_wide"]) (sc := defScope s_law_evidence_right) (by decide +kernel)) (by decide) (fun s H C cl fp => (pgN4 rfl sc_law_evidence_right.nd rfl rfl rfl rfl)) (fun s H C cl fp => ts_nil) (fun s H C cl fp => (s_cmp (ok_eq (hu64 hr)) (s_call (ok_is_path T) (hr.mono (by decide)) pz0 (by rfl) T.m_is_path T.kp_is_path (a_cons (s_var rfl) (a_cons (s_var rfl) (a_cons (s_var rfl) (a_cons (s_var rfl) a_nil))))) (s_var rfl) (nomark _)))) a_nil)))))))))))))))))))))))))))))))))

def f_law_tellings_right : Fd := runB 9 1 (bCons (sAsg (eCall f_law_scene (aCons (eVar 0) (aCons (eLst (aCons (eTup (aCons (eTup (aCons (eC (.str "ann")) aNil)) (aCons (eC (.bl true)) aNil))) (aCons (eTup (aCons (eTup (aCons (eC (.str "cy")) aNil)) (aCons (eC (.bl false)) aNil))) aNil))) aNil))) (gSlot 1)) (bCons (sIf (tBin opNe (eCall f_good_sets (aCons (eVar 1) aNil)) (eLst (aCons (eTup (aCons (eC (.str "odd")) aNil)) (aCons (eTup (aCons (eC (.str "odd")) (aCons (eC (.str "some")) aNil))) aNil)))) (sRet (eC (.bl false))) bNil) (bCons (sIf (tBin opNe (eCall f_breaches (aCons (eVar 1) aNil)) (eLst (aCons (eTup (aCons (eTup (aCons (eC (.str "odd")) aNil)) (aCons (eTup (aCons (eC (.str "odd")) (aCons (eC (.str "late")) aNil))) aNil))) (aCons (eTup (aCons (eTup (aCons (eC (.str "odd")) (aCons (eC (.str "some")) aNil))) (aCons (eTup (aCons (eC (.str "odd")) (aCons (eC (.str "late")) (aCons (eC (.str "some")) aNil)))) aNil))) aNil)))) (sRet (eC (.bl false))) bNil) (bCons (sIf (tBin opNe (eCall f_rescues (aCons (eVar 1) aNil)) (eLst (aCons (eTup (aCons (eTup aNil) (aCons (eTup (aCons (eC (.str "odd")) aNil)) aNil))) (aCons (eTup (aCons (eTup (aCons (eC (.str "some")) aNil)) (aCons (eTup (aCons (eC (.str "odd")) (aCons (eC (.str "some")) aNil))) aNil))) aNil)))) (sRet (eC (.bl false))) bNil) (bCons (sIf (tBin opNe (eCall f_meets (aCons (eVar 1) (aCons (eTup (aCons (eC (.str "odd")) (aCons (eC (.str "late")) aNil))) aNil))) (eLst (aCons (eC (.bl true)) (aCons (eC (.bl false)) aNil)))) (sRet (eC (.bl false))) bNil) (bCons (sAsg (eCall f_cheapest (aCons (eVar 1) aNil)) (gSlot 2)) (bCons (sIf (tOr (tBin opNe (eUn (opFld 2 "said") (eVar 2)) (eTup (aCons (eC (.str "odd")) aNil))) (tOr (tBin opNe (eBin opIxA (eUn (opFld 2 "reasons") (eVar 2)) (eC (.int 0))) (eTup (aCons (eTup (aCons (eC (.int 3)) aNil)) (aCons (eTup (aCons (eC (.int 3)) aNil)) aNil)))) (tBin opIsNot (eMeth 2 "shows" f_Telling_shows (eVar 2) (aCons (eVar 1) aNil)) (eC (.bl true))))) (sRet (eC (.bl false))) bNil) (bCons (sIf (tBin opNe (eCall opListT (aCons (eUn (opFld 2 "doubts") (eVar 2)) aNil)) (eBin opAdd (eLst (aCons (eTup aNil) aNil)) (eIf (tBin opGt (eVar 0) (eC (.int 1))) (eLst (aCons (eTup (aCons (eC (.str "some")) aNil)) aNil)) (eLst aNil)))) (sRet (eC (.bl false))) bNil) (bCons (sAsg (eLst (aCons (eTup (aCons (eTup (aCons (eC (.str "ann")) (aCons (eC (.str "bob")) aNil))) (aCons (eC (.bl false)) aNil))) (aCons (eTup (aCons (eTup (aCons (eC (.str "bob")) (aCons (eC (.str "ann")) aNil))) (aCons (eC (.bl false)) aNil))) (aCons (eTup (aCons (eTup (aCons (eC (.str "cy")) (aCons (eC (.str "cy")) aNil))) (aCons (eC (.bl false)) aNil))) (aCons (eTup (aCons (eTup (aCons (eC (.str "ann")) aNil)) (aCons (eC (.bl false)) aNil))) aNil))))) (gSlot 3)) (bCons (sAsg (eCall f_law_scene (aCons (eVar 0) (aCons (eVar 3) aNil))) (gSlot 4)) (bCons (sIf (tBin opNe (eUn (opFld 2 "said") (eCall f_cheapest (aCons (eVar 4) aNil))) (eTup aNil)) (sRet (eC (.bl false))) bNil) (bCons (sIf (tBin opDNe0 (eUn (opFld 2 "doubts") (eCall f_cheapest (aCons (eVar 4) aNil))) eDisp0) (sRet (eC (.bl false))) bNil) (bCons (sIf (tBin opIsNot (eMeth 2 "shows" f_Telling_shows (eCall f_cheapest (aCons (eVar 4) aNil)) (aCons (eVar 4) aNil)) (eC (.bl true))) (sRet (eC (.bl false))) bNil) (bCons (sAsg (eCall f_law_scene (aCons (eVar 0) (aCons (eLst (aCons (eTup (aCons (eTup (aCons (eC (.str "ann")) (aCons (eC (.str "bob")) (aCons (eC (.str "cy")) aNil)))) (aCons (eC (.bl true)) aNil))) aNil)) aNil))) (gSlot 5)) (bCons (sIf (tBin opNe (eCall f_good_sets (aCons (eVar 5) aNil)) (eLst (aCons (eTup (aCons (eC (.str "odd")) (aCons (eC (.str "late")) aNil))) (aCons (eTup (aCons (eC (.str "odd")) (aCons (eC (.str "late")) (aCons (eC (.str "some")) aNil)))) aNil)))) (sRet (eC (.bl false))) bNil) (bCons (sIf (tBin opNe (eUn (opFld 2 "said") (eCall f_cheapest (aCons (eVar 5) aNil))) (eTup (aCons (eC (.str "odd")) (aCons (eC (.str "late")) aNil)))) (sRet (eC (.bl false))) bNil) (bCons (sAsg (eDispK (pCons (eC (.str "x")) (eTup (aCons (eFz (eCall (mkC 0 f_Claim_init) (aCons (eC (.int 2)) (aCons (eC (.int 0)) (aCons (eC (.int 1)) aNil))))) (aCons (eVar 0) aNil))) (pCons (eC (.str "y")) (eTup (aCons (eFz (eCall (mkC 0 f_Claim_init) (aCons (eC (.int 2)) (aCons (eC (.int 0)) aNil)))) (aCons (eVar 0) aNil))) (pCons (eC (.str "z")) (eTup (aCons (eFz (eCall (mkC 0 f_Claim_init) (aCons (eC (.int 2)) (aCons (eC (.int 0)) aNil)))) (aCons (eVar 0) aNil))) pNil)))) (gSlot 6)) (bCons (sAsg (eFz (eCall (mkC 1 f_Scene_init) (aCons (eC (.int 2)) (aCons (eC (.int 0)) (aCons (eDispK (pCons (eC (.str "ann")) (eTup (aCons (eC (.int 1)) (aCons (eC (.int 1)) aNil))) pNil)) (aCons (eFz (eCall (mkC 0 f_Claim_init) (aCons (eC (.int 2)) (aCons (eC (.int 0)) aNil)))) (aCons (eVar 6) (aCons (eLst (aCons (eTup (aCons (eTup (aCons (eC (.str "ann")) aNil)) (aCons (eC (.bl true)) aNil))) aNil)) aNil)))))))) (gSlot 7)) (bCons (sIf (tBin opNe (eUn (opFld 2 "said") (eCall f_cheapest (aCons (eVar 7) aNil))) (eTup (aCons (eC (.str "y")) aNil))) (sRet (eC (.bl false))) bNil) (bCons (sIf (tBin opNe (eCall f_good_sets (aCons (eVar 7) aNil)) (eLst (aCons (eTup (aCons (eC (.str "y")) aNil)) (aCons (eTup (aCons (eC (.str "z")) aNil)) (aCons (eTup (aCons (eC (.str "x")) (aCons (eC (.str "y")) aNil))) (aCons (eTup (aCons (eC (.str "x")) (aCons (eC (.str "z")) aNil))) (aCons (eTup (aCons (eC (.str "y")) (aCons (eC (.str "z")) aNil))) (aCons (eTup (aCons (eC (.str "x")) (aCons (eC (.str "y")) (aCons (eC (.str "z")) aNil)))) aNil)))))))) (sRet (eC (.bl false))) bNil) (bCons (sAsg (eCall f_law_scene (aCons (eVar 0) (aCons (eLst (aCons (eTup (aCons (eTup (aCons (eC (.str "ann")) aNil)) (aCons (eC (.bl true)) aNil))) (aCons (eTup (aCons (eTup (aCons (eC (.str "ann")) (aCons (eC (.str "ann")) aNil))) (aCons (eC (.bl false)) aNil))) aNil))) aNil))) (gSlot 8)) (bCons (sAsg (eCall f_cheapest (aCons (eVar 8) aNil)) (gSlot 2)) (sRet (eAnd (eCall (opIsi ownC kt) (aCons (eVar 2) (aCons (eC (.gl 3)) aNil))) (eAnd (eBin opIs (eMeth 3 "shows" f_NoTelling_shows (eVar 2) (aCons (eVar 8) aNil)) (eC (.bl true))) (eBin opEq (eCall opLenT (aCons (eUn (opFld 3 "doubts") (eVar 2)) aNil)) (eC (.int 8))))))))))))))))))))))))))))
theorem sc_law_tellings_right : FnScope ["_law_worth", "_law_scene_here", "_law_found", "_law_goals", "_law_pair", "_law_every", "_law_lines", "_law_tied", "_law_never"] ["_law_worth"] (defScope s_law_tellings_right) := ⟨rfl, rfl, rfl, by decide +kernel, rfl, by decide +kernel, by decide +kernel⟩
theorem ok_law_tellings_right (T : Txt K mg Γ Φ Ψ) : FnF Γ P w K mg base 13 (Φ 82) f_law_tellings_right := by
  obtain ⟨fd, hF, hb⟩ := T.F_law_tellings_right
  refine fn_body hF sc_law_tellings_right hb (by decide) fun cdv A outer s H E hr => ?_
  exact (b_cons (s_set sc_law_tellings_right.nd rfl (s_call (ok_law_scene T) (hr.mono (by decide)) (pz_of (takes_of rfl rfl rfl rfl)) (by rfl) T.m_law_scene T.kp_law_scene (a_cons (s_var rfl) (a_cons (s_lst (a_cons (s_tup (a_cons (s_tup (a_cons s_str a_nil)) (a_cons s_bl a_nil))) (a_cons (s_tup (a_cons (s_tup (a_cons s_str a_nil)) (a_cons s_bl a_nil))) a_nil))) a_nil)))) (b_cons (s_if (t_cmp (ok_ne (hu64 hr)) (s_call (ok_good_sets T) (hr.mono (by decide)) (pz_of (takes_of rfl rfl rfl rfl)) (by rfl) T.m_good_sets T.kp_good_sets (a_cons (s_var rfl) a_nil)) (s_lst (a_cons (s_tup (a_cons s_str a_nil)) (a_cons (s_tup (a_cons s_str (a_cons s_str a_nil))) a_nil))) (nomark _)) (b_one (s_ret s_bl)) b_nil) (b_cons (s_if (t_cmp (ok_ne (hu64 hr)) (s_call (ok_breaches T) (hr.mono (by decide)) (pz_of (takes_of rfl rfl rfl rfl)) (by rfl) T.m_breaches T.kp_breaches (a_cons (s_var rfl) a_nil)) (s_lst (a_cons (s_tup (a_cons (s_tup (a_cons s_str a_nil)) (a_cons (s_tup (a_cons s_str (a_cons s_str a_nil))) a_nil))) (a_cons (s_tup (a_cons (s_tup (a_cons s_str (a_cons s_str a_nil))) (a_cons (s_tup (a_cons s_str (a_cons s_str (a_cons s_str a_nil)))) a_nil))) a_nil))) (nomark _)) (b_one (s_ret s_bl)) b_nil) (b_cons (s_if (t_cmp (ok_ne (hu64 hr)) (s_call (ok_rescues T) (hr.mono (by decide)) (pz_of (takes_of rfl rfl rfl rfl)) (by rfl) T.m_rescues T.kp_rescues (a_cons (s_var rfl) a_nil)) (s_lst (a_cons (s_tup (a_cons (s_tup a_nil) (a_cons (s_tup (a_cons s_str a_nil)) a_nil))) (a_cons (s_tup (a_cons (s_tup (a_cons s_str a_nil)) (a_cons (s_tup (a_cons s_str (a_cons s_str a_nil))) a_nil))) a_nil))) (nomark _)) (b_one (s_ret s_bl)) b_nil) (b_cons (s_if (t_cmp (ok_ne (hu64 hr)) (s_call (ok_meets T) (hr.mono (by decide)) (pz_of (takes_of rfl rfl rfl rfl)) (by rfl) T.m_meets T.kp_meets (a_cons (s_var rfl) (a_cons (s_tup (a_cons s_str (a_cons s_str a_nil))) a_nil))) (s_lst (a_cons s_bl (a_cons s_bl a_nil))) (nomark _)) (b_one (s_ret s_bl)) b_nil) (b_cons (s_set sc_law_tellings_right.nd rfl (s_call (ok_cheapest T) (hr.mono (by decide)) (pz_of (takes_of rfl rfl rfl rfl)) (by rfl) T.m_cheapest T.kp_cheapest (a_cons (s_var rfl) a_nil))) (b_cons (s_if (t_bool (w_or (t_cmp (ok_ne (hu64 hr)) (s_fld T.cl_Telling T.a_Tellingsaid (s_var rfl)) (s_tup (a_cons s_str a_nil)) (nomark _)) (w_or (t_cmp (ok_ne (hu64 hr)) (s_ixA (hu_of hr) (s_fld T.cl_Telling T.a_Tellingreasons (s_var rfl)) s_int) (s_tup (a_cons (s_tup (a_cons s_int a_nil)) (a_cons (s_tup (a_cons s_int a_nil)) a_nil))) (nomark _)) (w_or1 (t_cmp ok_isNot (s_meth T.cl_Telling T.me_Telling_shows (ok_Telling_shows T) (hr.mono (by decide)) (pz_of (takes_of rfl rfl rfl rfl)) (s_var rfl) (a_cons (s_var rfl) a_nil)) s_bl (nomark _)))))) (b_one (s_ret s_bl)) b_nil) (b_cons (s_if (t_cmp (ok_ne (hu64 hr)) (s_callTy (call_list_dT rfl) rd_listT (by rfl) T.n_list (by decide +kernel) (a_cons (s_fld T.cl_Telling T.a_Tellingdoubts (s_var rfl)) a_nil)) (s_bin ok_add (s_lst (a_cons (s_tup a_nil) a_nil)) (s_ifExp (t_cmp ok_gt (s_var rfl) s_int (nomark _)) (s_lst (a_cons (s_tup (a_cons s_str a_nil)) a_nil)) (s_lst a_nil))) (nomark _)) (b_one (s_ret s_bl)) b_nil) (b_cons (s_set sc_law_tellings_right.nd rfl (s_lst (a_cons (s_tup (a_cons (s_tup (a_cons s_str (a_cons s_str a_nil))) (a_cons s_bl a_nil))) (a_cons (s_tup (a_cons (s_tup (a_cons s_str (a_cons s_str a_nil))) (a_cons s_bl a_nil))) (a_cons (s_tup (a_cons (s_tup (a_cons s_str (a_cons s_str a_nil))) (a_cons s_bl a_nil))) (a_cons (s_tup (a_cons (s_tup (a_cons s_str a_nil)) (a_cons s_bl a_nil))) a_nil)))))) (b_cons (s_set sc_law_tellings_right.nd rfl (s_call (ok_law_scene T) (hr.mono (by decide)) (pz_of (takes_of rfl rfl rfl rfl)) (by rfl) T.m_law_scene T.kp_law_scene (a_cons (s_var rfl) (a_cons (s_var rfl) a_nil)))) (b_cons (s_if (t_cmp (ok_ne (hu64 hr)) (s_fld T.cl_Telling T.a_Tellingsaid (s_call (ok_cheapest T) (hr.mono (by decide)) (pz_of (takes_of rfl rfl rfl rfl)) (by rfl) T.m_cheapest T.kp_cheapest (a_cons (s_var rfl) a_nil))) (s_tup a_nil) (nomark _)) (b_one (s_ret s_bl)) b_nil) (b_cons (s_if (t_cmp (ok_dne0 hr.units0) (s_fld T.cl_Telling T.a_Tellingdoubts (s_call (ok_cheapest T) (hr.mono (by decide)) (pz_of (takes_of rfl rfl rfl rfl)) (by rfl) T.m_cheapest T.kp_cheapest (a_cons (s_var rfl) a_nil))) s_disp0 (nomark _)) (b_one (s_ret s_bl)) b_nil) (b_cons (s_if (t_cmp ok_isNot (s_meth T.cl_Telling T.me_Telling_shows (ok_Telling_shows T) (hr.mono (by decide)) (pz_of (takes_of rfl rfl rfl rfl)) (s_call (ok_cheapest T) (hr.mono (by decide)) (pz_of (takes_of rfl rfl rfl rfl)) (by rfl) T.m_cheapest T.kp_cheapest (a_cons (s_var rfl) a_nil)) (a_cons (s_var rfl) a_nil)) s_bl (nomark _)) (b_one (s_ret s_bl)) b_nil) (b_cons (s_set sc_law_tellings_right.nd rfl (s_call (ok_law_scene T) (hr.mono (by decide)) (pz_of (takes_of rfl rfl rfl rfl)) (by rfl) T.m_law_scene T.kp_law_scene (a_cons (s_var rfl) (a_cons (s_lst (a_cons (s_tup (a_cons (s_tup (a_cons s_str (a_cons s_str (a_cons s_str a_nil)))) (a_cons s_bl a_nil))) a_nil)) a_nil)))) (b_cons (s_if (t_cmp (ok_ne (hu64 hr)) (s_call (ok_good_sets T) (hr.mono (by decide)) (pz_of (takes_of rfl rfl rfl rfl)) (by rfl) T.m_good_sets T.kp_good_sets (a_cons (s_var rfl) a_nil)) (s_lst (a_cons (s_tup (a_cons s_str (a_cons s_str a_nil))) (a_cons (s_tup (a_cons s_str (a_cons s_str (a_cons s_str a_nil)))) a_nil))) (nomark _)) (b_one (s_ret s_bl)) b_nil) (b_cons (s_if (t_cmp (ok_ne (hu64 hr)) (s_fld T.cl_Telling T.a_Tellingsaid (s_call (ok_cheapest T) (hr.mono (by decide)) (pz_of (takes_of rfl rfl rfl rfl)) (by rfl) T.m_cheapest T.kp_cheapest (a_cons (s_var rfl) a_nil))) (s_tup (a_cons s_str (a_cons s_str a_nil))) (nomark _)) (b_one (s_ret s_bl)) b_nil) (b_cons (s_set sc_law_tellings_right.nd rfl (s_dispK (p_cons s_str (s_tup (a_cons (s_fz (s_make T.mk_Claim (ok_Claim_init T) (hr.mono (by decide)) (pz_of (takes_of rfl rfl rfl rfl)) (by rfl) T.c_Claim (a_cons s_int (a_cons s_int (a_cons s_int a_nil))))) (a_cons (s_var rfl) a_nil))) (p_cons s_str (s_tup (a_cons (s_fz (s_make T.mk_Claim (ok_Claim_init T) (hr.mono (by decide)) (pz_of (takes_of rfl rfl rfl rfl)) (by rfl) T.c_Claim (a_cons s_int (a_cons s_int a_nil)))) (a_cons (s_var rfl) a_nil))) (p_cons s_str (s_tup (a_cons (s_fz (s_make T.mk_Claim (ok_Claim_init T) (hr.mono (by decide)) (pz_of (takes_of rfl rfl rfl rfl)) (by rfl) T.c_Claim (a_cons s_int (a_cons s_int a_nil)))) (a_cons (s_var rfl) a_nil))) p_nil))))) (b_cons (s_set sc_law_tellings_right.nd rfl (s_fz (s_make T.mk_Scene (ok_Scene_init T) (hr.mono (by decide)) (pz_of (takes_of rfl rfl rfl rfl)) (by rfl) T.c_Scene (a_cons s_int (a_cons s_int (a_cons (s_dispK (p_cons s_str (s_tup (a_cons s_int (a_cons s_int a_nil))) p_nil)) (a_cons (s_fz (s_make T.mk_Claim (ok_Claim_init T) (hr.mono (by decide)) (pz_of (takes_of rfl rfl rfl rfl)) (by rfl) T.c_Claim (a_cons s_int (a_cons s_int a_nil)))) (a_cons (s_var rfl) (a_cons (s_lst (a_cons (s_tup (a_cons (s_tup (a_cons s_str a_nil)) (a_cons s_bl a_nil))) a_nil)) a_nil))))))))) (b_cons (s_if (t_cmp (ok_ne (hu64 hr)) (s_fld T.cl_Telling T.a_Tellingsaid (s_call (ok_cheapest T) (hr.mono (by decide)) (pz_of (takes_of rfl rfl rfl rfl)) (by rfl) T.m_cheapest T.kp_cheapest (a_cons (s_var rfl) a_nil))) (s_tup (a_cons s_str a_nil)) (nomark _)) (b_one (s_ret s_bl)) b_nil) (b_cons (s_if (t_cmp (ok_ne (hu64 hr)) (s_call (ok_good_sets T) (hr.mono (by decide)) (pz_of (takes_of rfl rfl rfl rfl)) (by rfl) T.m_good_sets T.kp_good_sets (a_cons (s_var rfl) a_nil)) (s_lst (a_cons (s_tup (a_cons s_str a_nil)) (a_cons (s_tup (a_cons s_str a_nil)) (a_cons (s_tup (a_cons s_str (a_cons s_str a_nil))) (a_cons (s_tup (a_cons s_str (a_cons s_str a_nil))) (a_cons (s_tup (a_cons s_str (a_cons s_str a_nil))) (a_cons (s_tup (a_cons s_str (a_cons s_str (a_cons s_str a_nil)))) a_nil))))))) (nomark _)) (b_one (s_ret s_bl)) b_nil) (b_cons (s_set sc_law_tellings_right.nd rfl (s_call (ok_law_scene T) (hr.mono (by decide)) (pz_of (takes_of rfl rfl rfl rfl)) (by rfl) T.m_law_scene T.kp_law_scene (a_cons (s_var rfl) (a_cons (s_lst (a_cons (s_tup (a_cons (s_tup (a_cons s_str a_nil)) (a_cons s_bl a_nil))) (a_cons (s_tup (a_cons (s_tup (a_cons s_str (a_cons s_str a_nil))) (a_cons s_bl a_nil))) a_nil))) a_nil)))) (b_cons (s_set sc_law_tellings_right.nd rfl (s_call (ok_cheapest T) (hr.mono (by decide)) (pz_of (takes_of rfl rfl rfl rfl)) (by rfl) T.m_cheapest T.kp_cheapest (a_cons (s_var rfl) a_nil))) (b_one (s_ret (s_and (s_callB call_isi (rd_isi T.isi T.kt_ok) (by rfl) T.n_isinstance (by decide +kernel) (a_cons (s_var rfl) (a_cons (s_glob (by rfl) T.c_NoTelling) a_nil))) (s_and (s_cmp ok_is (s_meth T.cl_NoTelling T.me_NoTelling_shows (ok_NoTelling_shows T) (hr.mono (by decide)) (pz_of (takes_of rfl rfl rfl rfl)) (s_var rfl) (a_cons (s_var rfl) a_nil)) s_bl (nomark _)) (s_one (s_cmp (ok_eq (hu64 hr)) (s_callB call_len_rdT rd_lenT (by rfl) T.n_len (by decide +kernel) (a_cons (s_fld T.cl_NoTelling T.a_NoTellingdoubts (s_var rfl)) a_nil)) s_int (nomark _)))))))))))))))))))))))))))))

def f_law_answers_right : Fd := runB 9 0 (bCons (sPar2 0 1 (aCons (eLst (aCons (eTup (aCons (eTup (aCons (eC (.str "ann")) aNil)) (aCons (eC (.bl true)) aNil))) (aCons (eTup (aCons (eTup (aCons (eC (.str "cy")) aNil)) (aCons (eC (.bl false)) aNil))) aNil))) (aCons (eTup (aCons (eTup (aCons (eC (.int 3)) aNil)) (aCons (eTup (aCons (eC (.int 3)) aNil)) aNil))) aNil))) (bCons (sAsg (eLst (aCons (eTup (aCons (eC (.int 1)) (aCons (eLst (aCons (eVar 1) (aCons (eTup (aCons (eC (.int 3)) (aCons (eC (.int 1)) aNil))) aNil))) (aCons (eDispT (pCons (eTup aNil) (eTup (aCons (eC (.int 0)) (aCons (eTup (aCons (eC (.int 3)) (aCons (eC (.int 2)) aNil))) aNil))) pNil)) (aCons (eC (.bl true)) aNil))))) aNil)) (gSlot 2)) (bCons (sAsg (eBin opAdd (eVar 2) (eLst (aCons (eTup (aCons (eC (.int 1)) (aCons (eLst (aCons (eTup (aCons (eC (.int 3)) (aCons (eC (.int 2)) aNil))) (aCons (eTup (aCons (eC (.int 3)) (aCons (eC (.int 1)) aNil))) aNil))) (aCons (eDispT (pCons (eTup aNil) (eTup (aCons (eC (.int 0)) (aCons (eTup (aCons (eC (.int 3)) (aCons (eC (.int 2)) aNil))) aNil))) pNil)) (aCons (eC (.bl false)) aNil))))) aNil))) (gSlot 2)) (bCons (sAsg (eBin opAdd (eVar 2) (eLst (aCons (eTup (aCons (eC (.int 1)) (aCons (eLst (aCons (eVar 1) (aCons (eVar 1) aNil))) (aCons (eDispT (pCons (eTup aNil) (eTup (aCons (eC (.int 0)) (aCons (eTup (aCons (eC (.int 3)) (aCons (eC (.int 2)) aNil))) aNil))) pNil)) (aCons (eC (.bl false)) aNil))))) aNil))) (gSlot 2)) (bCons (sAsg (eBin opAdd (eVar 2) (eLst (aCons (eTup (aCons (eC (.int 1)) (aCons (eLst (aCons (eVar 1) (aCons (eTup (aCons (eC (.int 3)) (aCons (eC (.int 0)) aNil))) aNil))) (aCons (eDispT (pCons (eTup aNil) (eTup (aCons (eC (.int 0)) (aCons (eTup (aCons (eC (.int 3)) (aCons (eC (.int 2)) aNil))) aNil))) pNil)) (aCons (eC (.bl false)) aNil))))) aNil))) (gSlot 2)) (bCons (sAsg (eBin opAdd (eVar 2) (eLst (aCons (eTup (aCons (eC (.int 1)) (aCons (eLst (aCons (eVar 1) (aCons (eTup (aCons (eC (.int 3)) (aCons (eC (.int 1)) aNil))) aNil))) (aCons eDispT0 (aCons (eC (.bl false)) aNil))))) aNil))) (gSlot 2)) (bCons (sAsg (eBin opAdd (eVar 2) (eLst (aCons (eTup (aCons (eC (.int 1)) (aCons (eLst (aCons (eVar 1) (aCons (eTup (aCons (eC (.int 3)) (aCons (eC (.int 1)) aNil))) aNil))) (aCons (eDispT (pCons (eTup aNil) (eTup (aCons (eC (.int 0)) (aCons (eVar 1) aNil))) pNil)) (aCons (eC (.bl false)) aNil))))) aNil))) (gSlot 2)) (bCons (sAsg (eBin opAdd (eVar 2) (eLst (aCons (eTup (aCons (eC (.int 1)) (aCons (eLst (aCons (eVar 1) (aCons (eTup (aCons (eC (.int 3)) (aCons (eC (.int 1)) aNil))) aNil))) (aCons (eDispT (pCons (eTup aNil) (eTup (aCons (eC (.int 1)) (aCons (eTup (aCons (eC (.int 3)) (aCons (eC (.int 2)) aNil))) aNil))) pNil)) (aCons (eC (.bl false)) aNil))))) aNil))) (gSlot 2)) (bCons (sAsg (eBin opAdd (eVar 2) (eLst (aCons (eTup (aCons (eC (.int 1)) (aCons (eLst (aCons (eVar 1) (aCons (eTup (aCons (eC (.int 3)) (aCons (eC (.int 1)) aNil))) aNil))) (aCons (eDispT (pCons (eTup aNil) (eTup (aCons (eC (.int 0)) (aCons (eTup (aCons (eC (.int 3)) (aCons (eC (.int 2)) aNil))) aNil))) (pCons (eTup (aCons (eC (.str "some")) aNil)) (eTup (aCons (eC (.int 0)) (aCons (eTup (aCons (eC (.int 3)) (aCons (eC (.int 2)) aNil))) aNil))) pNil))) (aCons (eC (.bl false)) aNil))))) aNil))) (gSlot 2)) (bCons (sAsg (eBin opAdd (eVar 2) (eLst (aCons (eTup (aCons (eC (.int 2)) (aCons (eLst (aCons (eVar 1) (aCons (eTup (aCons (eC (.int 3)) (aCons (eC (.int 1)) aNil))) aNil))) (aCons (eDispT (pCons (eTup (aCons (eC (.str "some")) aNil)) (eTup (aCons (eC (.int 0)) (aCons (eTup (aCons (eC (.int 3)) (aCons (eC (.int 2)) aNil))) aNil))) (pCons (eTup aNil) (eTup (aCons (eC (.int 0)) (aCons (eTup (aCons (eC (.int 3)) (aCons (eC (.int 2)) aNil))) aNil))) pNil))) (aCons (eC (.bl true)) aNil))))) aNil))) (gSlot 2)) (bCons (sAsg (eBin opAdd (eVar 2) (eLst (aCons (eTup (aCons (eC (.int 2)) (aCons (eLst (aCons (eVar 1) (aCons (eTup (aCons (eC (.int 3)) (aCons (eC (.int 1)) aNil))) aNil))) (aCons (eDispT (pCons (eTup (aCons (eC (.str "some")) aNil)) (eTup (aCons (eC (.int 0)) (aCons (eTup (aCons (eC (.int 3)) (aCons (eC (.int 1)) aNil))) aNil))) (pCons (eTup aNil) (eTup (aCons (eC (.int 0)) (aCons (eTup (aCons (eC (.int 3)) (aCons (eC (.int 2)) aNil))) aNil))) pNil))) (aCons (eC (.bl false)) aNil))))) aNil))) (gSlot 2)) (bCons (sAsg (eBin opAdd (eVar 2) (eLst (aCons (eTup (aCons (eC (.int 2)) (aCons (eLst (aCons (eVar 1) (aCons (eTup (aCons (eC (.int 3)) (aCons (eC (.int 1)) aNil))) aNil))) (aCons (eDispT (pCons (eTup aNil) (eTup (aCons (eC (.int 0)) (aCons (eTup (aCons (eC (.int 3)) (aCons (eC (.int 2)) aNil))) aNil))) pNil)) (aCons (eC (.bl false)) aNil))))) aNil))) (gSlot 2)) (bCons (sFor (iAny (eVar 2)) (gTup [(gSlot 3), (gSlot 4), (gSlot 5), (gSlot 6)]) (sIf (tBin opNe (eMeth 2 "shows" f_Telling_shows (eFz (eCall (mkC 2 f_Telling_init) (aCons (eTup (aCons (eC (.str "odd")) aNil)) (aCons (eVar 4) (aCons (eVar 5) aNil))))) (aCons (eCall f_law_scene (aCons (eVar 3) (aCons (eVar 0) aNil))) aNil)) (eVar 6)) (sRet (eC (.bl false))) bNil)) (bCons (sAsg (eFz (eCall (mkC 2 f_Telling_init) (aCons (eTup (aCons (eC (.str "odd")) (aCons (eC (.str "late")) aNil))) (aCons (eLst (aCons (eVar 1) (aCons (eTup (aCons (eC (.int 3)) (aCons (eC (.int 1)) aNil))) aNil))) (aCons eDispT0 aNil))))) (gSlot 7)) (bCons (sIf (eTru (eMeth 2 "shows" f_Telling_shows (eVar 7) (aCons (eCall f_law_scene (aCons (eC (.int 1)) (aCons (eVar 0) aNil))) aNil))) (sRet (eC (.bl false))) bNil) (bCons (sAsg (eFz (eCall (mkC 1 f_Scene_init) (aCons (eC (.int 2)) (aCons (eC (.int 0)) (aCons (eDispK (pCons (eC (.str "ann")) (eTup (aCons (eC (.int 1)) (aCons (eC (.int 1)) aNil))) pNil)) (aCons (eFz (eCall (mkC 0 f_Claim_init) (aCons (eC (.int 2)) (aCons (eC (.int 0)) aNil)))) (aCons eDisp0 (aCons (eLst (aCons (eTup (aCons (eTup (aCons (eC (.str "ann")) aNil)) (aCons (eC (.bl true)) aNil))) (aCons (eTup (aCons (eTup (aCons (eC (.str "ann")) aNil)) (aCons (eC (.bl false)) aNil))) aNil))) aNil)))))))) (gSlot 8)) (bCons (sAsg (eLst (aCons (eTup (aCons (eDispT (pCons (eTup aNil) (eTup (aCons (eC (.int 0)) (aCons (eTup (aCons (eC (.int 0)) (aCons (eC (.int 1)) aNil))) aNil))) pNil)) (aCons (eC (.bl true)) aNil))) (aCons (eTup (aCons (eDispT (pCons (eTup aNil) (eTup (aCons (eC (.int 1)) (aCons (eTup (aCons (eC (.int 0)) (aCons (eC (.int 1)) aNil))) aNil))) pNil)) (aCons (eC (.bl false)) aNil))) aNil))) (gSlot 2)) (bCons (sAsg (eBin opAdd (eVar 2) (eLst (aCons (eTup (aCons (eDispT (pCons (eTup aNil) (eTup (aCons (eC (.int 0)) (aCons (eTup (aCons (eC (.int 0)) (aCons (eC (.int 0)) aNil))) aNil))) pNil)) (aCons (eC (.bl false)) aNil))) (aCons (eTup (aCons eDispT0 (aCons (eC (.bl false)) aNil))) aNil)))) (gSlot 2)) (bCons (sAsg (eBin opAdd (eVar 2) (eLst (aCons (eTup (aCons (eDispT (pCons (eTup aNil) (eTup (aCons (eC (.int 0)) (aCons (eTup (aCons (eTup (aCons (eC (.int 0)) aNil)) (aCons (eTup (aCons (eC (.int 0)) (aCons (eC (.int 1)) aNil))) aNil))) aNil))) pNil)) (aCons (eC (.bl false)) aNil))) aNil))) (gSlot 2)) (sRet (eCall opAll (aCons (eLc (iAny (eVar 2)) (.tup [5, 6]) tYesD (eBin opEq (eMeth 3 "shows" f_NoTelling_shows (eFz (eCall (mkC 3 f_NoTelling_init) (aCons (eVar 5) aNil))) (aCons (eVar 8) aNil)) (eVar 6)) [5, 6]) aNil))))))))))))))))))))))
theorem sc_law_answers_right : FnScope ["_law_goals", "_law_circle", "_law_rows", "_law_worth", "_law_reasons", "_law_doubts", "_law_due", "_law_dear", "_law_plain"] [] (defScope s_law_answers_right) := ⟨rfl, rfl, rfl, by decide +kernel, rfl, by decide +kernel, by decide +kernel⟩
theorem ok_law_answers_right (T : Txt K mg Γ Φ Ψ) : FnF Γ P w K mg base 13 (Φ 83) f_law_answers_right := by
  obtain ⟨fd, hF, hb⟩ := T.F_law_answers_right
  refine fn_body hF sc_law_answers_right hb (by decide) fun cdv A outer s H E hr => ?_
  exact (b_cons (s_par2 rfl sc_law_answers_right.nd rfl rfl (by decide) rfl rfl (a_cons (s_lst (a_cons (s_tup (a_cons (s_tup (a_cons s_str a_nil)) (a_cons s_bl a_nil))) (a_cons (s_tup (a_cons (s_tup (a_cons s_str a_nil)) (a_cons s_bl a_nil))) a_nil))) (a_cons (s_tup (a_cons (s_tup (a_cons s_int a_nil)) (a_cons (s_tup (a_cons s_int a_nil)) a_nil))) a_nil)) (by rfl)) (b_cons (s_set sc_law_answers_right.nd rfl (s_lst (a_cons (s_tup (a_cons s_int (a_cons (s_lst (a_cons (s_var rfl) (a_cons (s_tup (a_cons s_int (a_cons s_int a_nil))) a_nil))) (a_cons (s_dispT hr.units0 (p_cons (s_tup a_nil) (s_tup (a_cons s_int (a_cons (s_tup (a_cons s_int (a_cons s_int a_nil))) a_nil))) p_nil)) (a_cons s_bl a_nil))))) a_nil))) (b_cons (s_set sc_law_answers_right.nd rfl (s_bin ok_add (s_var rfl) (s_lst (a_cons (s_tup (a_cons s_int (a_cons (s_lst (a_cons (s_tup (a_cons s_int (a_cons s_int a_nil))) (a_cons (s_tup (a_cons s_int (a_cons s_int a_nil))) a_nil))) (a_cons (s_dispT hr.units0 (p_cons (s_tup a_nil) (s_tup (a_cons s_int (a_cons (s_tup (a_cons s_int (a_cons s_int a_nil))) a_nil))) p_nil)) (a_cons s_bl a_nil))))) a_nil)))) (b_cons (s_set sc_law_answers_right.nd rfl (s_bin ok_add (s_var rfl) (s_lst (a_cons (s_tup (a_cons s_int (a_cons (s_lst (a_cons (s_var rfl) (a_cons (s_var rfl) a_nil))) (a_cons (s_dispT hr.units0 (p_cons (s_tup a_nil) (s_tup (a_cons s_int (a_cons (s_tup (a_cons s_int (a_cons s_int a_nil))) a_nil))) p_nil)) (a_cons s_bl a_nil))))) a_nil)))) (b_cons (s_set sc_law_answers_right.nd rfl (s_bin ok_add (s_var rfl) (s_lst (a_cons (s_tup (a_cons s_int (a_cons (s_lst (a_cons (s_var rfl) (a_cons (s_tup (a_cons s_int (a_cons s_int a_nil))) a_nil))) (a_cons (s_dispT hr.units0 (p_cons (s_tup a_nil) (s_tup (a_cons s_int (a_cons (s_tup (a_cons s_int (a_cons s_int a_nil))) a_nil))) p_nil)) (a_cons s_bl a_nil))))) a_nil)))) (b_cons (s_set sc_law_answers_right.nd rfl (s_bin ok_add (s_var rfl) (s_lst (a_cons (s_tup (a_cons s_int (a_cons (s_lst (a_cons (s_var rfl) (a_cons (s_tup (a_cons s_int (a_cons s_int a_nil))) a_nil))) (a_cons s_dispT0 (a_cons s_bl a_nil))))) a_nil)))) (b_cons (s_set sc_law_answers_right.nd rfl (s_bin ok_add (s_var rfl) (s_lst (a_cons (s_tup (a_cons s_int (a_cons (s_lst (a_cons (s_var rfl) (a_cons (s_tup (a_cons s_int (a_cons s_int a_nil))) a_nil))) (a_cons (s_dispT hr.units0 (p_cons (s_tup a_nil) (s_tup (a_cons s_int (a_cons (s_var rfl) a_nil))) p_nil)) (a_cons s_bl a_nil))))) a_nil)))) (b_cons (s_set sc_law_answers_right.nd rfl (s_bin ok_add (s_var rfl) (s_lst (a_cons (s_tup (a_cons s_int (a_cons (s_lst (a_cons (s_var rfl) (a_cons (s_tup (a_cons s_int (a_cons s_int a_nil))) a_nil))) (a_cons (s_dispT hr.units0 (p_cons (s_tup a_nil) (s_tup (a_cons s_int (a_cons (s_tup (a_cons s_int (a_cons s_int a_nil))) a_nil))) p_nil)) (a_cons s_bl a_nil))))) a_nil)))) (b_cons (s_set sc_law_answers_right.nd rfl (s_bin ok_add (s_var rfl) (s_lst (a_cons (s_tup (a_cons s_int (a_cons (s_lst (a_cons (s_var rfl) (a_cons (s_tup (a_cons s_int (a_cons s_int a_nil))) a_nil))) (a_cons (s_dispT hr.units0 (p_cons (s_tup a_nil) (s_tup (a_cons s_int (a_cons (s_tup (a_cons s_int (a_cons s_int a_nil))) a_nil))) (p_cons (s_tup (a_cons s_str a_nil)) (s_tup (a_cons s_int (a_cons (s_tup (a_cons s_int (a_cons s_int a_nil))) a_nil))) p_nil))) (a_cons s_bl a_nil))))) a_nil)))) (b_cons (s_set sc_law_answers_right.nd rfl (s_bin ok_add (s_var rfl) (s_lst (a_cons (s_tup (a_cons s_int (a_cons (s_lst (a_cons (s_var rfl) (a_cons (s_tup (a_cons s_int (a_cons s_int a_nil))) a_nil))) (a_cons (s_dispT hr.units0 (p_cons (s_tup (a_cons s_str a_nil)) (s_tup (a_cons s_int (a_cons (s_tup (a_cons s_int (a_cons s_int a_nil))) a_nil))) (p_cons (s_tup a_nil) (s_tup (a_cons s_int (a_cons (s_tup (a_cons s_int (a_cons s_int a_nil))) a_nil))) p_nil))) (a_cons s_bl a_nil))))) a_nil)))) (b_cons (s_set sc_law_answers_right.nd rfl (s_bin ok_add (s_var rfl) (s_lst (a_cons (s_tup (a_cons s_int (a_cons (s_lst (a_cons (s_var rfl) (a_cons (s_tup (a_cons s_int (a_cons s_int a_nil))) a_nil))) (a_cons (s_dispT hr.units0 (p_cons (s_tup (a_cons s_str a_nil)) (s_tup (a_cons s_int (a_cons (s_tup (a_cons s_int (a_cons s_int a_nil))) a_nil))) (p_cons (s_tup a_nil) (s_tup (a_cons s_int (a_cons (s_tup (a_cons s_int (a_cons s_int a_nil))) a_nil))) p_nil))) (a_cons s_bl a_nil))))) a_nil)))) (b_cons (s_set sc_law_answers_right.nd rfl (s_bin ok_add (s_var rfl) (s_lst (a_cons (s_tup (a_cons s_int (a_cons (s_lst (a_cons (s_var rfl) (a_cons (s_tup (a_cons s_int (a_cons s_int a_nil))) a_nil))) (a_cons (s_dispT hr.units0 (p_cons (s_tup a_nil) (s_tup (a_cons s_int (a_cons (s_tup (a_cons s_int (a_cons s_int a_nil))) a_nil))) p_nil)) (a_cons s_bl a_nil))))) a_nil)))) (b_cons (s_for (passes_of rfl) rfl (i_any (s_var rfl)) (g_tup rfl (gs_cons (g_slot sc_law_answers_right.nd rfl) (gs_cons (g_slot sc_law_answers_right.nd rfl) (gs_cons (g_slot sc_law_answers_right.nd rfl) (gs_cons (g_slot sc_law_answers_right.nd rfl) gs_nil))))) (b_one (s_if (t_cmp (ok_ne (hu64 hr)) (s_meth T.cl_Telling T.me_Telling_shows (ok_Telling_shows T) (hr.mono (by decide)) (pz_of (takes_of rfl rfl rfl rfl)) (s_fz (s_make T.mk_Telling (ok_Telling_init T) (hr.mono (by decide)) (pz_of (takes_of rfl rfl rfl rfl)) (by rfl) T.c_Telling (a_cons (s_tup (a_cons s_str a_nil)) (a_cons (s_var rfl) (a_cons (s_var rfl) a_nil))))) (a_cons (s_call (ok_law_scene T) (hr.mono (by decide)) (pz_of (takes_of rfl rfl rfl rfl)) (by rfl) T.m_law_scene T.kp_law_scene (a_cons (s_var rfl) (a_cons (s_var rfl) a_nil))) a_nil)) (s_var rfl) (nomark _)) (b_one (s_ret s_bl)) b_nil))) (b_cons (s_set sc_law_answers_right.nd rfl (s_fz (s_make T.mk_Telling (ok_Telling_init T) (hr.mono (by decide)) (pz_of (takes_of rfl rfl rfl rfl)) (by rfl) T.c_Telling (a_cons (s_tup (a_cons s_str (a_cons s_str a_nil))) (a_cons (s_lst (a_cons (s_var rfl) (a_cons (s_tup (a_cons s_int (a_cons s_int a_nil))) a_nil))) (a_cons s_dispT0 a_nil)))))) (b_cons (s_if (t_truth (s_meth T.cl_Telling T.me_Telling_shows (ok_Telling_shows T) (hr.mono (by decide)) (pz_of (takes_of rfl rfl rfl rfl)) (s_var rfl) (a_cons (s_call (ok_law_scene T) (hr.mono (by decide)) (pz_of (takes_of rfl rfl rfl rfl)) (by rfl) T.m_law_scene T.kp_law_scene (a_cons s_int (a_cons (s_var rfl) a_nil))) a_nil))) (b_one (s_ret s_bl)) b_nil) (b_cons (s_set sc_law_answers_right.nd rfl (s_fz (s_make T.mk_Scene (ok_Scene_init T) (hr.mono (by decide)) (pz_of (takes_of rfl rfl rfl rfl)) (by rfl) T.c_Scene (a_cons s_int (a_cons s_int (a_cons (s_dispK (p_cons s_str (s_tup (a_cons s_int (a_cons s_int a_nil))) p_nil)) (a_cons (s_fz (s_make T.mk_Claim (ok_Claim_init T) (hr.mono (by decide)) (pz_of (takes_of rfl rfl rfl rfl)) (by rfl) T.c_Claim (a_cons s_int (a_cons s_int a_nil)))) (a_cons s_disp0 (a_cons (s_lst (a_cons (s_tup (a_cons (s_tup (a_cons s_str a_nil)) (a_cons s_bl a_nil))) (a_cons (s_tup (a_cons (s_tup (a_cons s_str a_nil)) (a_cons s_bl a_nil))) a_nil))) a_nil))))))))) (b_cons (s_set sc_law_answers_right.nd rfl (s_lst (a_cons (s_tup (a_cons (s_dispT hr.units0 (p_cons (s_tup a_nil) (s_tup (a_cons s_int (a_cons (s_tup (a_cons s_int (a_cons s_int a_nil))) a_nil))) p_nil)) (a_cons s_bl a_nil))) (a_cons (s_tup (a_cons (s_dispT hr.units0 (p_cons (s_tup a_nil) (s_tup (a_cons s_int (a_cons (s_tup (a_cons s_int (a_cons s_int a_nil))) a_nil))) p_nil)) (a_cons s_bl a_nil))) a_nil)))) (b_cons (s_set sc_law_answers_right.nd rfl (s_bin ok_add (s_var rfl) (s_lst (a_cons (s_tup (a_cons (s_dispT hr.units0 (p_cons (s_tup a_nil) (s_tup (a_cons s_int (a_cons (s_tup (a_cons s_int (a_cons s_int a_nil))) a_nil))) p_nil)) (a_cons s_bl a_nil))) (a_cons (s_tup (a_cons s_dispT0 (a_cons s_bl a_nil))) a_nil))))) (b_cons (s_set sc_law_answers_right.nd rfl (s_bin ok_add (s_var rfl) (s_lst (a_cons (s_tup (a_cons (s_dispT hr.units0 (p_cons (s_tup a_nil) (s_tup (a_cons s_int (a_cons (s_tup (a_cons (s_tup (a_cons s_int a_nil)) (a_cons (s_tup (a_cons s_int (a_cons s_int a_nil))) a_nil))) a_nil))) p_nil)) (a_cons s_bl a_nil))) a_nil)))) (b_one (s_ret (s_callB (cr_all rfl) rd_all (by rfl) T.n_all (by decide +kernel) (a_cons (s_lc (own := [("_law_doubts", 5), ("_law_due", 6)]) rfl sc_law_answers_right.nd (i_any (s_var rfl)) (blkOk_by (N := ["_law_goals", "_law_circle", "_law_rows", "_law_worth", "_law_reasons", "_law_doubts", "_law_due", "_law_dear", "_law_plain"]) (sc := defScope s_law_answers_right) (by decide +kernel)) (by decide) (fun s H C cl fp => (pgN2 rfl sc_law_answers_right.nd rfl rfl)) (fun s H C cl fp => ts_nil) (fun s H C cl fp => (s_cmp (ok_eq (hu64 hr)) (s_meth T.cl_NoTelling T.me_NoTelling_shows (ok_NoTelling_shows T) (hr.mono (by decide)) pz0 (s_fz (s_make T.mk_NoTelling (ok_NoTelling_init T) (hr.mono (by decide)) pz0 (by rfl) T.c_NoTelling (a_cons (s_var rfl) a_nil))) (a_cons (s_var rfl) a_nil)) (s_var rfl) (nomark _)))) a_nil)))))))))))))))))))))))

def f_law : Fd := runB 3 1 (sTry exm_TellError (bCons (sFor (iAny (eBin opAdd (eLst (aCons (eC (.int 0)) aNil)) (eCut (eVar 0) oNone (oSome (eC (.int 3)))))) (gSlot 1) (bCons (sAsg (eBin opAdd (eC (.int 1)) (eBin opMod (eCall opAbs (aCons (eVar 1) aNil)) (eC (.int 9)))) (gSlot 2)) (sIf (tOr (tNot (eTru (eCall f_law_knowing_right (aCons (eVar 2) aNil)))) (tNot (eTru (eCall f_law_tellings_right (aCons (eVar 2) aNil))))) (sRet (eC (.bl false))) bNil))) (sRet (eAnd (eCall f_law_claims_right aNil) (eAnd (eCall f_law_evidence_right aNil) (eCall f_law_answers_right aNil))))) (sRet (eC (.bl false))))
theorem sc_law : FnScope ["_law_script", "_law_cell", "_law_worth"] ["_law_script"] (defScope s_law) := ⟨rfl, rfl, rfl, by decide +kernel, rfl, by decide +kernel, by decide +kernel⟩
theorem okk_law (T : Txt K mg Γ Φ Ψ) {fd : FuncData} (hF : Fun K "law" "law" s_law (Φ 84) fd) (hb : Binds K fd ["_law_script"] []) : FnOk P w K mg base (L2.CX P w) 14 (Φ 84) fd ["_law_script"] (spF Γ f_law) := by
  refine fn_bodyK hF sc_law (by decide) fun cdv A outer s H E hr => ?_
  exact (b_one (s_try rfl rfl ⟨by rfl, by decide, .inl T.c_TellError⟩ ((takes_of rfl rfl rfl rfl)) T.xm_TellError (fun _ _ _ tk pp => (b_cons (s_for pp rfl (i_any (s_bin ok_add (s_lst (a_cons s_int a_nil)) (s_cut (s_var rfl) o_none (o_some s_int)))) (g_slot sc_law.nd rfl) (b_cons (s_set sc_law.nd rfl (s_bin ok_add s_int (s_bin ok_mod (s_callB call_abs rd_abs (by rfl) T.n_abs (by decide +kernel) (a_cons (s_var rfl) a_nil)) s_int))) (b_one (s_if (t_bool (w_or (t_not (t_truth (s_call (ok_law_knowing_right T) (hr.mono (by decide)) (pz_of tk) (by rfl) T.m_law_knowing_right T.kp_law_knowing_right (a_cons (s_var rfl) a_nil)))) (w_or1 (t_not (t_truth (s_call (ok_law_tellings_right T) (hr.mono (by decide)) (pz_of tk) (by rfl) T.m_law_tellings_right T.kp_law_tellings_right (a_cons (s_var rfl) a_nil))))))) (b_one (s_ret s_bl)) b_nil)))) (b_one (s_ret (s_and (s_call0 (ok_law_claims_right T) (hr.mono (by decide)) (pz_of tk) (by rfl) T.m_law_claims_right T.kp_law_claims_right) (s_and (s_call0 (ok_law_evidence_right T) (hr.mono (by decide)) (pz_of tk) (by rfl) T.m_law_evidence_right T.kp_law_evidence_right) (s_one (s_call0 (ok_law_answers_right T) (hr.mono (by decide)) (pz_of tk) (by rfl) T.m_law_answers_right T.kp_law_answers_right)))))))) (fun _ _ _ => (b_one (s_ret s_bl)))))

end
end Pf
namespace Pf
open PySem L2 Ev
/-! ### what is fixed is computed -/
def isT (r : Res D) : Bool := match r with
  | .ok (.bl true) [] => true
  | _ => false
theorem isT_of {r : Res D} (h : isT r = true) : r = .ok (.bl true) [] := by
  unfold isT at h
  split at h
  · rfl
  · cases h
theorem c_claims : isT (f_law_claims_right [] []) = true := by decide +kernel
theorem c_evidence : isT (f_law_evidence_right [] []) = true := by decide +kernel
theorem c_answers : isT (f_law_answers_right [] []) = true := by decide +kernel
theorem c_knowing0 : isT (f_law_knowing_right [.int (1 + ((0 : Nat) : Int))] []) = true := by decide +kernel
theorem c_knowing1 : isT (f_law_knowing_right [.int (1 + ((1 : Nat) : Int))] []) = true := by decide +kernel
theorem c_knowing2 : isT (f_law_knowing_right [.int (1 + ((2 : Nat) : Int))] []) = true := by decide +kernel
theorem c_knowing3 : isT (f_law_knowing_right [.int (1 + ((3 : Nat) : Int))] []) = true := by decide +kernel
theorem c_knowing4 : isT (f_law_knowing_right [.int (1 + ((4 : Nat) : Int))] []) = true := by decide +kernel
theorem c_knowing5 : isT (f_law_knowing_right [.int (1 + ((5 : Nat) : Int))] []) = true := by decide +kernel
theorem c_knowing6 : isT (f_law_knowing_right [.int (1 + ((6 : Nat) : Int))] []) = true := by decide +kernel
theorem c_knowing7 : isT (f_law_knowing_right [.int (1 + ((7 : Nat) : Int))] []) = true := by decide +kernel
theorem c_knowing8 : isT (f_law_knowing_right [.int (1 + ((8 : Nat) : Int))] []) = true := by decide +kernel
theorem c_knowing : ∀ w : Fin 9, isT (f_law_knowing_right [.int (1 + (w.val : Int))] []) = true
  | ⟨0, _⟩ => c_knowing0
  | ⟨1, _⟩ => c_knowing1
  | ⟨2, _⟩ => c_knowing2
  | ⟨3, _⟩ => c_knowing3
  | ⟨4, _⟩ => c_knowing4
  | ⟨5, _⟩ => c_knowing5
  | ⟨6, _⟩ => c_knowing6
  | ⟨7, _⟩ => c_knowing7
  | ⟨8, _⟩ => c_knowing8
theorem c_tellings0 : isT (f_law_tellings_right [.int (1 + ((0 : Nat) : Int))] []) = true := by decide +kernel
theorem c_tellings1 : isT (f_law_tellings_right [.int (1 + ((1 : Nat) : Int))] []) = true := by decide +kernel
theorem c_tellings2 : isT (f_law_tellings_right [.int (1 + ((2 : Nat) : Int))] []) = true := by decide +kernel
theorem c_tellings3 : isT (f_law_tellings_right [.int (1 + ((3 : Nat) : Int))] []) = true := by decide +kernel
theorem c_tellings4 : isT (f_law_tellings_right [.int (1 + ((4 : Nat) : Int))] []) = true := by decide +kernel
theorem c_tellings5 : isT (f_law_tellings_right [.int (1 + ((5 : Nat) : Int))] []) = true := by decide +kernel
theorem c_tellings6 : isT (f_law_tellings_right [.int (1 + ((6 : Nat) : Int))] []) = true := by decide +kernel
theorem c_tellings7 : isT (f_law_tellings_right [.int (1 + ((7 : Nat) : Int))] []) = true := by decide +kernel
theorem c_tellings8 : isT (f_law_tellings_right [.int (1 + ((8 : Nat) : Int))] []) = true := by decide +kernel
theorem c_tellings : ∀ w : Fin 9, isT (f_law_tellings_right [.int (1 + (w.val : Int))] []) = true
  | ⟨0, _⟩ => c_tellings0
  | ⟨1, _⟩ => c_tellings1
  | ⟨2, _⟩ => c_tellings2
  | ⟨3, _⟩ => c_tellings3
  | ⟨4, _⟩ => c_tellings4
  | ⟨5, _⟩ => c_tellings5
  | ⟨6, _⟩ => c_tellings6
  | ⟨7, _⟩ => c_tellings7
  | ⟨8, _⟩ => c_tellings8
end Pf
namespace Pf
open PySem L2 Ev
theorem ap_sPut {op : D → D → D → Sto → Option Sto} {fv fo fi : F1} {σ : Sg} {S : Sto} : sPut op fv fo fi σ S = (fv σ S).bind fun d S1 => (fo σ S1).bind fun x S2 => (fi σ S2).bind fun y S3 => onO (op x y d S3) fun S4 => .ok (.nx σ) S4 := by
  unfold sPut
  congr
  funext d S1
  congr
  funext x S2
  congr
  funext y S3
  cases op x y d S3 <;> rfl
theorem loop_inv {body : D → FS} (I : Sg → Sto → Prop) : ∀ (items : List D) (σ : Sg) (S : Sto), I σ S → (∀ x ∈ items, ∀ σ S, I σ S → ∃ σ' S', body x σ S = .ok (.nx σ') S' ∧ I σ' S') → ∃ σ' S', loopG body items σ S = .ok (.nx σ') S' ∧ I σ' S'
  | [], σ, S, h, _ => ⟨σ, S, rfl, h⟩
  | x :: r, σ, S, h, step => by
    obtain ⟨σ1, S1, e1, h1⟩ := step x List.mem_cons_self σ S h
    obtain ⟨σ2, S2, e2, h2⟩ := loop_inv I r σ1 S1 h1 fun y hy => step y (List.mem_cons_of_mem _ hy)
    refine ⟨σ2, S2, ?_, h2⟩
    show ((body x σ S).bind fun o S1 => match o with | .nx σ1 => loopG body r σ1 S1 | .ct σ1 => loopG body r σ1 S1 | .bk σ1 => .ok (.nx σ1) S1 | .rt d => .ok (.rt d) S1) = _
    rw [e1]
    exact e2
theorem cut_take (l : List D) (v : Nat) : cutD l none (some (v : Int)) = l.take v := by
  unfold cutD
  rw [HT.sIx_none, HT.sIx_nat, List.drop_zero, Nat.sub_zero]
  by_cases h : v ≤ l.length
  · rw [Nat.min_eq_left h]
  · rw [Nat.min_eq_right (by omega), List.take_of_length_le (Nat.le_refl _), List.take_of_length_le (by omega)]
theorem sFor_of {fi : FI} {g : FG} {b : FS} {σ : Sg} {S S1 : Sto} {items : List D} {r : Res Out} (hi : fi σ S = .ok items S1) (h : loopG (turnG g b) items σ S1 = r) : sFor fi g b σ S = r := by
  rw [ap_sFor, hi]
  exact h
def bL1 : FS := (bCons (sAsg (eBin opAdd (eC (.int 1)) (eBin opMod (eCall opAbs (aCons (eVar 1) aNil)) (eC (.int 9)))) (gSlot 2)) (sIf (tOr (tNot (eTru (eCall f_law_knowing_right (aCons (eVar 2) aNil)))) (tNot (eTru (eCall f_law_tellings_right (aCons (eVar 2) aNil))))) (sRet (eC (.bl false))) bNil))
theorem law_eq : f_law = runB 3 1 (sTry exm_TellError (bCons (sFor (iAny (eBin opAdd (eLst (aCons (eC (.int 0)) aNil)) (eCut (eVar 0) oNone (oSome (eC (.int 3)))))) (gSlot 1) bL1) (sRet (eAnd (eCall f_law_claims_right aNil) (eAnd (eCall f_law_evidence_right aNil) (eCall f_law_answers_right aNil))))) (sRet (eC (.bl false)))) := rfl

theorem worth_of (c : Int) : ∃ w : Fin 9, 1 + (if c < 0 then -c else c) % 9 = 1 + (w.val : Int) := by
  refine ⟨⟨((if c < 0 then -c else c) % 9).toNat, by omega⟩, ?_⟩
  show _ = 1 + ((((if c < 0 then -c else c) % 9).toNat : Nat) : Int)
  omega
theorem turn (sc : D) (c : Int) (x1 x2 : Option D) : ∃ y, turnG (gSlot 1) bL1 (.int c) [some sc, x1, x2] [] = .ok (.nx [some sc, some (.int c), y]) [] := by
  obtain ⟨w, ew⟩ := worth_of c
  have ab : opAbs [.int c] [] = .ok (.int (if c < 0 then -c else c)) [] := rfl
  refine ⟨some (.int (1 + (w.val : Int))), ?_⟩
  have k1 := isT_of (c_knowing w)
  have k2 := isT_of (c_tellings w)
  unfold bL1
  simp only [↓EVS, EVP, OPS, ↓reduceIte, ap_turnG, ab, o_mod (show (0 : Int) < 9 by decide), ew, k1, k2, Bool.not_true, Bool.or_false, Bool.false_eq_true]
theorem good (ns : List Int) (hn : ns.length ≤ 63) : ∃ S, f_law [.scr (ns.map D.int)] [] = .ok (.bl true) S := by
  obtain ⟨σ', S', e, ⟨y1, y2, rfl⟩, rfl⟩ := loop_inv (body := turnG (gSlot 1) bL1) (fun σ S => (∃ x1 x2, σ = [some (.scr (ns.map D.int)), x1, x2]) ∧ S = []) (.int 0 :: (ns.map D.int).take 3) [some (.scr (ns.map D.int)), none, none] [] ⟨⟨none, none, rfl⟩, rfl⟩ (by
    rintro x hx _ _ ⟨⟨x1, x2, rfl⟩, rfl⟩
    have hc : ∃ c : Int, x = .int c := by
      rcases List.mem_cons.mp hx with z | z
      · exact ⟨0, z⟩
      · obtain ⟨c, _, rfl⟩ := List.mem_map.mp (List.mem_of_mem_take z)
        exact ⟨c, rfl⟩
    obtain ⟨c, rfl⟩ := hc
    obtain ⟨y, e⟩ := turn (.scr (ns.map D.int)) c x1 x2
    exact ⟨_, _, e, ⟨_, _, rfl⟩, rfl⟩)
  have ct : opCut (.scr (ns.map D.int)) none (some 3) [] = .ok (.lst ((ns.map D.int).take 3)) [] := by
    show Res.ok (D.lst (cutD (ns.map D.int) none (some ((3 : Nat) : Int)))) [] = _
    rw [cut_take]
  have ad : opAdd (.lst [.int 0]) (.lst ((ns.map D.int).take 3)) [] = .ok (.lst (.int 0 :: (ns.map D.int).take 3)) [] := by
    show (if [D.int 0].length + ((ns.map D.int).take 3).length ≤ line then Res.ok (D.lst ([D.int 0] ++ (ns.map D.int).take 3)) [] else .no) = _
    rw [if_pos]
    · rfl
    · rw [List.length_take]
      exact Nat.le_trans (show _ ≤ 10 by simp only [List.length_cons, List.length_nil]; omega) (by decide)
  have it : iAny (eBin opAdd (eLst (aCons (eC (.int 0)) aNil)) (eCut (eVar 0) oNone (oSome (eC (.int 3))))) [some (.scr (ns.map D.int)), none, none] [] = .ok (.int 0 :: (ns.map D.int).take 3) [] := by
    have q : eBin opAdd (eLst (aCons (eC (.int 0)) aNil)) (eCut (eVar 0) oNone (oSome (eC (.int 3)))) [some (.scr (ns.map D.int)), none, none] [] = .ok (.lst (.int 0 :: (ns.map D.int).take 3)) [] := by
      simp only [↓EVS, EVP, OPS, ↓reduceIte, ct, ad]
    unfold iAny
    rw [q]
    rfl
  have f1 := sFor_of (g := gSlot 1) (b := bL1) it e
  refine ⟨[], ?_⟩
  have k1 := isT_of c_claims
  have k2 := isT_of c_evidence
  have k3 := isT_of c_answers
  rw [law_eq]
  have body : (bCons (sFor (iAny (eBin opAdd (eLst (aCons (eC (.int 0)) aNil)) (eCut (eVar 0) oNone (oSome (eC (.int 3)))))) (gSlot 1) bL1) (sRet (eAnd (eCall f_law_claims_right aNil) (eAnd (eCall f_law_evidence_right aNil) (eCall f_law_answers_right aNil))))) [some (.scr (ns.map D.int)), none, none] [] = .ok (.rt (.bl true)) [] := by
    rw [ap_bCons, f1]
    simp only [↓EVS, EVP, OPS, ↓reduceIte, k1, k2, k3]
  show endD (sTry exm_TellError _ _ [some (.scr (ns.map D.int)), none, none] []) = _
  unfold sTry
  rw [body]
  rfl
end Pf
namespace Pf
open PySem PySem.Spec PyProof.Rows L2 Ev
theorem txt_of {K : PySem.W.Frag} {h : Heap} {mg : Str → Option Value} (X : K.In h) (G : h.Ns mainGlobals mg) (c : SaysC chk fns K) : Txt K mg (Gam K) (Phi K) (Psi K) where
    isi := fun c h => by
      have h2 : c = 0 ∨ c = 1 ∨ c = 2 ∨ c = 3 := by simpa [ownC, or_assoc] using h
      rcases h2 with rfl | rfl | rfl | rfl
      · exact bClsI_ok (c.fact 0 rfl)
      · exact bClsI_ok (c.fact 1 rfl)
      · exact bClsI_ok (c.fact 2 rfl)
      · exact bClsI_ok (c.fact 3 rfl)
    kgc := fun c h => by
      have h2 : c = 0 ∨ c = 1 ∨ c = 2 ∨ c = 3 := by simpa [ownC, or_assoc] using h
      rcases h2 with rfl | rfl | rfl | rfl
      · exact (c.fact 4 rfl)
      · exact (c.fact 5 rfl)
      · exact (c.fact 6 rfl)
      · exact (c.fact 7 rfl)
    kgt := fun c y h => by
      have h2 : c = 0 ∨ c = 1 ∨ c = 2 ∨ c = 3 := by simpa [ownC, or_assoc] using h
      rcases h2 with rfl | rfl | rfl | rfl
      · exact fun z => of_decide_eq_true (List.all_eq_true.mp (c.fact 8 rfl) _ (List.contains_iff_mem.mp z))
      · exact fun z => of_decide_eq_true (List.all_eq_true.mp (c.fact 9 rfl) _ (List.contains_iff_mem.mp z))
      · exact fun z => of_decide_eq_true (List.all_eq_true.mp (c.fact 10 rfl) _ (List.contains_iff_mem.mp z))
      · exact fun z => of_decide_eq_true (List.all_eq_true.mp (c.fact 11 rfl) _ (List.contains_iff_mem.mp z))
    kgg := fun c y h hy => by
      have h2 : c = 0 ∨ c = 1 ∨ c = 2 ∨ c = 3 := by simpa [ownC, or_assoc] using h
      have h3 : y = 0 ∨ y = 1 ∨ y = 2 ∨ y = 3 := by simpa [ownC, or_assoc] using hy
      rcases h2 with rfl | rfl | rfl | rfl
      · rcases h3 with rfl | rfl | rfl | rfl
        · exact of_decide_eq_true (c.fact 12 rfl)
        · exact of_decide_eq_true (c.fact 13 rfl)
        · exact of_decide_eq_true (c.fact 14 rfl)
        · exact of_decide_eq_true (c.fact 15 rfl)
      · rcases h3 with rfl | rfl | rfl | rfl
        · exact of_decide_eq_true (c.fact 16 rfl)
        · exact of_decide_eq_true (c.fact 17 rfl)
        · exact of_decide_eq_true (c.fact 18 rfl)
        · exact of_decide_eq_true (c.fact 19 rfl)
      · rcases h3 with rfl | rfl | rfl | rfl
        · exact of_decide_eq_true (c.fact 20 rfl)
        · exact of_decide_eq_true (c.fact 21 rfl)
        · exact of_decide_eq_true (c.fact 22 rfl)
        · exact of_decide_eq_true (c.fact 23 rfl)
      · rcases h3 with rfl | rfl | rfl | rfl
        · exact of_decide_eq_true (c.fact 24 rfl)
        · exact of_decide_eq_true (c.fact 25 rfl)
        · exact of_decide_eq_true (c.fact 26 rfl)
        · exact of_decide_eq_true (c.fact 27 rfl)
    F_is_number := by
      obtain ⟨fd, F⟩ := c.def_ 0 (d := ⟨fun K => He.ga K "is_number", "is_number", "is_number", s_is_number⟩) rfl
      exact ⟨fd, F, F.binds fun _ _ _ _ _ _ us hl => match us, hl with | [_, _, _], _ => rfl⟩
    F_are_numbers := by
      obtain ⟨fd, F⟩ := c.def_ 1 (d := ⟨fun K => He.ga K "are_numbers", "are_numbers", "are_numbers", s_are_numbers⟩) rfl
      exact ⟨fd, F, F.binds fun _ _ _ _ _ _ us hl => match us, hl with | [_, _, _], _ => rfl⟩
    F_is_name := by
      obtain ⟨fd, F⟩ := c.def_ 2 (d := ⟨fun K => He.ga K "is_name", "is_name", "is_name", s_is_name⟩) rfl
      exact ⟨fd, F, F.binds fun _ _ _ _ _ _ us hl => match us, hl with | [_], _ => rfl⟩
    F_is_one_of := by
      obtain ⟨fd, F⟩ := c.def_ 3 (d := ⟨fun K => He.ga K "is_one_of", "is_one_of", "is_one_of", s_is_one_of⟩) rfl
      exact ⟨fd, F, F.binds fun _ _ _ _ _ _ us hl => match us, hl with | [_, _], _ => rfl⟩
    F_is_chain := by
      obtain ⟨fd, F⟩ := c.def_ 4 (d := ⟨fun K => He.ga K "is_chain", "is_chain", "is_chain", s_is_chain⟩) rfl
      exact ⟨fd, F, F.binds fun _ _ _ _ _ _ us hl => match us, hl with | [_, _], _ => rfl⟩
    F_Claim_init := by
      obtain ⟨fd, F⟩ := c.def_ 5 (d := ⟨fun K => He.ma K (He.ga K "Claim") "__init__", "__init__", "Claim.__init__", s_Claim_init⟩) rfl
      exact ⟨fd, F, by
        obtain ⟨oc, od, kV, doc, pm, an, cdv, ct, osl, rfl, lk, hcd⟩ := F.ex
        exact StX.bind_star2 (B := fun us => bindArgs _ ⟨us, []⟩) (fun a b => rfl) (fun a b r rs => rfl)⟩
    F_Claim_neg := by
      obtain ⟨fd, F⟩ := c.def_ 6 (d := ⟨fun K => He.ma K (He.ga K "Claim") "__neg__", "__neg__", "Claim.__neg__", s_Claim_neg⟩) rfl
      exact ⟨fd, F, F.binds fun _ _ _ _ _ _ us hl => match us, hl with | [_], _ => rfl⟩
    F_Claim_sure := by
      obtain ⟨fd, F⟩ := c.def_ 7 (d := ⟨fun K => recAd K (He.ma K (He.ga K "Claim") "sure") "classmethod", "sure", "Claim.sure", s_Claim_sure⟩) rfl
      exact ⟨fd, F, F.binds fun _ _ _ _ _ _ us hl => match us, hl with | [_, _], _ => rfl⟩
    F_Claim_total := by
      obtain ⟨fd, F⟩ := c.def_ 8 (d := ⟨fun K => recAd K (He.ma K (He.ga K "Claim") "total") "property", "total", "Claim.total", s_Claim_total⟩) rfl
      exact ⟨fd, F, F.binds fun _ _ _ _ _ _ us hl => match us, hl with | [_], _ => rfl⟩
    F_Claim_worlds := by
      obtain ⟨fd, F⟩ := c.def_ 9 (d := ⟨fun K => recAd K (He.ma K (He.ga K "Claim") "worlds") "property", "worlds", "Claim.worlds", s_Claim_worlds⟩) rfl
      exact ⟨fd, F, F.binds fun _ _ _ _ _ _ us hl => match us, hl with | [_], _ => rfl⟩
    F_is_claim := by
      obtain ⟨fd, F⟩ := c.def_ 10 (d := ⟨fun K => He.ga K "is_claim", "is_claim", "is_claim", s_is_claim⟩) rfl
      exact ⟨fd, F, F.binds fun _ _ _ _ _ _ us hl => match us, hl with | [_, _], _ => rfl⟩
    F_check_partner := by
      obtain ⟨fd, F⟩ := c.def_ 11 (d := ⟨fun K => He.ga K "check_partner", "check_partner", "check_partner", s_check_partner⟩) rfl
      exact ⟨fd, F, F.binds fun _ _ _ _ _ _ us hl => match us, hl with | [_, _], _ => rfl⟩
    F_Claim_and := by
      obtain ⟨fd, F⟩ := c.def_ 12 (d := ⟨fun K => He.ma K (He.ga K "Claim") "__and__", "__and__", "Claim.__and__", s_Claim_and⟩) rfl
      exact ⟨fd, F, F.binds fun _ _ _ _ _ _ us hl => match us, hl with | [_, _], _ => rfl⟩
    F_Claim_or := by
      obtain ⟨fd, F⟩ := c.def_ 13 (d := ⟨fun K => He.ma K (He.ga K "Claim") "__or__", "__or__", "Claim.__or__", s_Claim_or⟩) rfl
      exact ⟨fd, F, F.binds fun _ _ _ _ _ _ us hl => match us, hl with | [_, _], _ => rfl⟩
    F_Claim_contains := by
      obtain ⟨fd, F⟩ := c.def_ 14 (d := ⟨fun K => He.ma K (He.ga K "Claim") "__contains__", "__contains__", "Claim.__contains__", s_Claim_contains⟩) rfl
      exact ⟨fd, F, F.binds fun _ _ _ _ _ _ us hl => match us, hl with | [_, _], _ => rfl⟩
    F_Claim_len := by
      obtain ⟨fd, F⟩ := c.def_ 15 (d := ⟨fun K => He.ma K (He.ga K "Claim") "__len__", "__len__", "Claim.__len__", s_Claim_len⟩) rfl
      exact ⟨fd, F, F.binds fun _ _ _ _ _ _ us hl => match us, hl with | [_], _ => rfl⟩
    F_Claim_eq := by
      obtain ⟨fd, F⟩ := c.def_ 16 (d := ⟨fun K => He.ma K (He.ga K "Claim") "__eq__", "__eq__", "Claim.__eq__", s_Claim_eq⟩) rfl
      exact ⟨fd, F, F.binds fun _ _ _ _ _ _ us hl => match us, hl with | [_, _], _ => rfl⟩
    F_is_goal := by
      obtain ⟨fd, F⟩ := c.def_ 17 (d := ⟨fun K => He.ga K "is_goal", "is_goal", "is_goal", s_is_goal⟩) rfl
      exact ⟨fd, F, F.binds fun _ _ _ _ _ _ us hl => match us, hl with | [_, _], _ => rfl⟩
    F_are_goals := by
      obtain ⟨fd, F⟩ := c.def_ 18 (d := ⟨fun K => He.ga K "are_goals", "are_goals", "are_goals", s_are_goals⟩) rfl
      exact ⟨fd, F, F.binds fun _ _ _ _ _ _ us hl => match us, hl with | [_, _], _ => rfl⟩
    F_is_sentence := by
      obtain ⟨fd, F⟩ := c.def_ 19 (d := ⟨fun K => He.ga K "is_sentence", "is_sentence", "is_sentence", s_is_sentence⟩) rfl
      exact ⟨fd, F, F.binds fun _ _ _ _ _ _ us hl => match us, hl with | [_, _, _], _ => rfl⟩
    F_are_sentences := by
      obtain ⟨fd, F⟩ := c.def_ 20 (d := ⟨fun K => He.ga K "are_sentences", "are_sentences", "are_sentences", s_are_sentences⟩) rfl
      exact ⟨fd, F, F.binds fun _ _ _ _ _ _ us hl => match us, hl with | [_, _, _], _ => rfl⟩
    F_are_sights := by
      obtain ⟨fd, F⟩ := c.def_ 21 (d := ⟨fun K => He.ga K "are_sights", "are_sights", "are_sights", s_are_sights⟩) rfl
      exact ⟨fd, F, F.binds fun _ _ _ _ _ _ us hl => match us, hl with | [_, _], _ => rfl⟩
    F_are_people := by
      obtain ⟨fd, F⟩ := c.def_ 22 (d := ⟨fun K => He.ga K "are_people", "are_people", "are_people", s_are_people⟩) rfl
      exact ⟨fd, F, F.binds fun _ _ _ _ _ _ us hl => match us, hl with | [_, _], _ => rfl⟩
    F_are_world_and_count := by
      obtain ⟨fd, F⟩ := c.def_ 23 (d := ⟨fun K => He.ga K "are_world_and_count", "are_world_and_count", "are_world_and_count", s_are_world_and_count⟩) rfl
      exact ⟨fd, F, F.binds fun _ _ _ _ _ _ us hl => match us, hl with | [_, _], _ => rfl⟩
    F_Scene_init := by
      obtain ⟨fd, F⟩ := c.def_ 24 (d := ⟨fun K => He.ma K (He.ga K "Scene") "__init__", "__init__", "Scene.__init__", s_Scene_init⟩) rfl
      exact ⟨fd, F, F.binds fun _ _ _ _ _ _ us hl => match us, hl with | [_, _, _, _, _, _, _], _ => rfl⟩
    F_Scene_actual := by
      obtain ⟨fd, F⟩ := c.def_ 25 (d := ⟨fun K => recAd K (He.ma K (He.ga K "Scene") "actual") "property", "actual", "Scene.actual", s_Scene_actual⟩) rfl
      exact ⟨fd, F, F.binds fun _ _ _ _ _ _ us hl => match us, hl with | [_], _ => rfl⟩
    F_Scene_fact := by
      obtain ⟨fd, F⟩ := c.def_ 26 (d := ⟨fun K => recAd K (He.ma K (He.ga K "Scene") "fact") "property", "fact", "Scene.fact", s_Scene_fact⟩) rfl
      exact ⟨fd, F, F.binds fun _ _ _ _ _ _ us hl => match us, hl with | [_], _ => rfl⟩
    F_Scene_people := by
      obtain ⟨fd, F⟩ := c.def_ 27 (d := ⟨fun K => recAd K (He.ma K (He.ga K "Scene") "people") "property", "people", "Scene.people", s_Scene_people⟩) rfl
      exact ⟨fd, F, F.binds fun _ _ _ _ _ _ us hl => match us, hl with | [_], _ => rfl⟩
    F_Scene_names := by
      obtain ⟨fd, F⟩ := c.def_ 28 (d := ⟨fun K => recAd K (He.ma K (He.ga K "Scene") "names") "property", "names", "Scene.names", s_Scene_names⟩) rfl
      exact ⟨fd, F, F.binds fun _ _ _ _ _ _ us hl => match us, hl with | [_], _ => rfl⟩
    F_Scene_goals := by
      obtain ⟨fd, F⟩ := c.def_ 29 (d := ⟨fun K => recAd K (He.ma K (He.ga K "Scene") "goals") "property", "goals", "Scene.goals", s_Scene_goals⟩) rfl
      exact ⟨fd, F, F.binds fun _ _ _ _ _ _ us hl => match us, hl with | [_], _ => rfl⟩
    F_Scene__sentence := by
      obtain ⟨fd, F⟩ := c.def_ 30 (d := ⟨fun K => He.ma K (He.ga K "Scene") "_sentence", "_sentence", "Scene._sentence", s_Scene__sentence⟩) rfl
      exact ⟨fd, F, F.binds fun _ _ _ _ _ _ us hl => match us, hl with | [_, _], _ => rfl⟩
    F_Scene_getitem := by
      obtain ⟨fd, F⟩ := c.def_ 31 (d := ⟨fun K => He.ma K (He.ga K "Scene") "__getitem__", "__getitem__", "Scene.__getitem__", s_Scene_getitem⟩) rfl
      exact ⟨fd, F, F.binds fun _ _ _ _ _ _ us hl => match us, hl with | [_, _], _ => rfl⟩
    F_Scene_iter := by
      obtain ⟨fd, F⟩ := c.def_ 32 (d := ⟨fun K => He.ma K (He.ga K "Scene") "__iter__", "__iter__", "Scene.__iter__", s_Scene_iter⟩) rfl
      exact ⟨fd, F, F.binds fun _ _ _ _ _ _ us hl => match us, hl with | [_], _ => rfl⟩
    F_Scene_cost := by
      obtain ⟨fd, F⟩ := c.def_ 33 (d := ⟨fun K => He.ma K (He.ga K "Scene") "cost", "cost", "Scene.cost", s_Scene_cost⟩) rfl
      exact ⟨fd, F, F.binds fun _ _ _ _ _ _ us hl => match us, hl with | [_, _], _ => rfl⟩
    F_Scene_contains := by
      obtain ⟨fd, F⟩ := c.def_ 34 (d := ⟨fun K => He.ma K (He.ga K "Scene") "__contains__", "__contains__", "Scene.__contains__", s_Scene_contains⟩) rfl
      exact ⟨fd, F, F.binds fun _ _ _ _ _ _ us hl => match us, hl with | [_, _], _ => rfl⟩
    F_Scene_len := by
      obtain ⟨fd, F⟩ := c.def_ 35 (d := ⟨fun K => He.ma K (He.ga K "Scene") "__len__", "__len__", "Scene.__len__", s_Scene_len⟩) rfl
      exact ⟨fd, F, F.binds fun _ _ _ _ _ _ us hl => match us, hl with | [_], _ => rfl⟩
    F_Scene_in_order := by
      obtain ⟨fd, F⟩ := c.def_ 36 (d := ⟨fun K => He.ma K (He.ga K "Scene") "in_order", "in_order", "Scene.in_order", s_Scene_in_order⟩) rfl
      exact ⟨fd, F, F.binds fun _ _ _ _ _ _ us hl => match us, hl with | [_, _], _ => rfl⟩
    F_Scene_check_set := by
      obtain ⟨fd, F⟩ := c.def_ 37 (d := ⟨fun K => He.ma K (He.ga K "Scene") "check_set", "check_set", "Scene.check_set", s_Scene_check_set⟩) rfl
      exact ⟨fd, F, F.binds fun _ _ _ _ _ _ us hl => match us, hl with | [_, _], _ => rfl⟩
    F_Scene_remaining := by
      obtain ⟨fd, F⟩ := c.def_ 38 (d := ⟨fun K => He.ma K (He.ga K "Scene") "remaining", "remaining", "Scene.remaining", s_Scene_remaining⟩) rfl
      exact ⟨fd, F, F.binds fun _ _ _ _ _ _ us hl => match us, hl with | [_, _], _ => rfl⟩
    F_Scene_call := by
      obtain ⟨fd, F⟩ := c.def_ 39 (d := ⟨fun K => He.ma K (He.ga K "Scene") "__call__", "__call__", "Scene.__call__", s_Scene_call⟩) rfl
      exact ⟨fd, F, F.binds fun _ _ _ _ _ _ us hl => match us, hl with | [_, _], _ => rfl⟩
    F_Scene_sees := by
      obtain ⟨fd, F⟩ := c.def_ 40 (d := ⟨fun K => He.ma K (He.ga K "Scene") "sees", "sees", "Scene.sees", s_Scene_sees⟩) rfl
      exact ⟨fd, F, F.binds fun _ _ _ _ _ _ us hl => match us, hl with | [_, _, _], _ => rfl⟩
    F_Scene_eq := by
      obtain ⟨fd, F⟩ := c.def_ 41 (d := ⟨fun K => He.ma K (He.ga K "Scene") "__eq__", "__eq__", "Scene.__eq__", s_Scene_eq⟩) rfl
      exact ⟨fd, F, F.binds fun _ _ _ _ _ _ us hl => match us, hl with | [_, _], _ => rfl⟩
    F_check_scene := by
      obtain ⟨fd, F⟩ := c.def_ 42 (d := ⟨fun K => He.ga K "check_scene", "check_scene", "check_scene", s_check_scene⟩) rfl
      exact ⟨fd, F, F.binds fun _ _ _ _ _ _ us hl => match us, hl with | [_], _ => rfl⟩
    F_is_fact_in := by
      obtain ⟨fd, F⟩ := c.def_ 43 (d := ⟨fun K => He.ga K "is_fact_in", "is_fact_in", "is_fact_in", s_is_fact_in⟩) rfl
      exact ⟨fd, F, F.binds fun _ _ _ _ _ _ us hl => match us, hl with | [_, _], _ => rfl⟩
    F_confused := by
      obtain ⟨fd, F⟩ := c.def_ 44 (d := ⟨fun K => He.ga K "confused", "confused", "confused", s_confused⟩) rfl
      exact ⟨fd, F, F.binds fun _ _ _ _ _ _ us hl => match us, hl with | [_, _, _, _], _ => rfl⟩
    F_smallest_circle := by
      obtain ⟨fd, F⟩ := c.def_ 45 (d := ⟨fun K => He.ga K "smallest_circle", "smallest_circle", "smallest_circle", s_smallest_circle⟩) rfl
      exact ⟨fd, F, F.binds fun _ _ _ _ _ _ us hl => match us, hl with | [_, _, _], _ => rfl⟩
    F_worlds_left := by
      obtain ⟨fd, F⟩ := c.def_ 46 (d := ⟨fun K => He.ga K "worlds_left", "worlds_left", "worlds_left", s_worlds_left⟩) rfl
      exact ⟨fd, F, F.binds fun _ _ _ _ _ _ us hl => match us, hl with | [_, _, _], _ => rfl⟩
    F_holds := by
      obtain ⟨fd, F⟩ := c.def_ 47 (d := ⟨fun K => He.ga K "holds", "holds", "holds", s_holds⟩) rfl
      exact ⟨fd, F, F.binds fun _ _ _ _ _ _ us hl => match us, hl with | [_, _, _], _ => rfl⟩
    F_path_through := by
      obtain ⟨fd, F⟩ := c.def_ 48 (d := ⟨fun K => He.ga K "path_through", "path_through", "path_through", s_path_through⟩) rfl
      exact ⟨fd, F, F.binds fun _ _ _ _ _ _ us hl => match us, hl with | [_, _, _], _ => rfl⟩
    F_evidence := by
      obtain ⟨fd, F⟩ := c.def_ 49 (d := ⟨fun K => He.ga K "evidence", "evidence", "evidence", s_evidence⟩) rfl
      exact ⟨fd, F, F.binds fun _ _ _ _ _ _ us hl => match us, hl with | [_, _, _], _ => rfl⟩
    F_meets := by
      obtain ⟨fd, F⟩ := c.def_ 50 (d := ⟨fun K => He.ga K "meets", "meets", "meets", s_meets⟩) rfl
      exact ⟨fd, F, F.binds fun _ _ _ _ _ _ us hl => match us, hl with | [_, _], _ => rfl⟩
    F_has_all := by
      obtain ⟨fd, F⟩ := c.def_ 51 (d := ⟨fun K => He.ga K "has_all", "has_all", "has_all", s_has_all⟩) rfl
      exact ⟨fd, F, F.binds fun _ _ _ _ _ _ us hl => match us, hl with | [_, _], _ => rfl⟩
    F_is_ring := by
      obtain ⟨fd, F⟩ := c.def_ 52 (d := ⟨fun K => He.ga K "is_ring", "is_ring", "is_ring", s_is_ring⟩) rfl
      exact ⟨fd, F, F.binds fun _ _ _ _ _ _ us hl => match us, hl with | [_, _], _ => rfl⟩
    F_is_circle := by
      obtain ⟨fd, F⟩ := c.def_ 53 (d := ⟨fun K => He.ga K "is_circle", "is_circle", "is_circle", s_is_circle⟩) rfl
      exact ⟨fd, F, F.binds fun _ _ _ _ _ _ us hl => match us, hl with | [_, _, _, _], _ => rfl⟩
    F_is_path := by
      obtain ⟨fd, F⟩ := c.def_ 54 (d := ⟨fun K => He.ga K "is_path", "is_path", "is_path", s_is_path⟩) rfl
      exact ⟨fd, F, F.binds fun _ _ _ _ _ _ us hl => match us, hl with | [_, _, _, _], _ => rfl⟩
    F_unmet_goals := by
      obtain ⟨fd, F⟩ := c.def_ 55 (d := ⟨fun K => He.ga K "unmet_goals", "unmet_goals", "unmet_goals", s_unmet_goals⟩) rfl
      exact ⟨fd, F, F.binds fun _ _ _ _ _ _ us hl => match us, hl with | [_, _], _ => rfl⟩
    F_Telling_init := by
      obtain ⟨fd, F⟩ := c.def_ 56 (d := ⟨fun K => He.ma K (He.ga K "Telling") "__init__", "__init__", "Telling.__init__", s_Telling_init⟩) rfl
      exact ⟨fd, F, F.binds fun _ _ _ _ _ _ us hl => match us, hl with | [_, _, _, _], _ => rfl⟩
    F_is_proof := by
      obtain ⟨fd, F⟩ := c.def_ 57 (d := ⟨fun K => He.ga K "is_proof", "is_proof", "is_proof", s_is_proof⟩) rfl
      exact ⟨fd, F, F.binds fun _ _ _ _ _ _ us hl => match us, hl with | [_, _, _, _, _], _ => rfl⟩
    F_is_doubt := by
      obtain ⟨fd, F⟩ := c.def_ 58 (d := ⟨fun K => He.ga K "is_doubt", "is_doubt", "is_doubt", s_is_doubt⟩) rfl
      exact ⟨fd, F, F.binds fun _ _ _ _ _ _ us hl => match us, hl with | [_, _, _], _ => rfl⟩
    F_are_doubts := by
      obtain ⟨fd, F⟩ := c.def_ 59 (d := ⟨fun K => He.ga K "are_doubts", "are_doubts", "are_doubts", s_are_doubts⟩) rfl
      exact ⟨fd, F, F.binds fun _ _ _ _ _ _ us hl => match us, hl with | [_, _, _], _ => rfl⟩
    F_are_reasons := by
      obtain ⟨fd, F⟩ := c.def_ 60 (d := ⟨fun K => He.ga K "are_reasons", "are_reasons", "are_reasons", s_are_reasons⟩) rfl
      exact ⟨fd, F, F.binds fun _ _ _ _ _ _ us hl => match us, hl with | [_, _, _], _ => rfl⟩
    F_sets_of := by
      obtain ⟨fd, F⟩ := c.def_ 61 (d := ⟨fun K => He.ga K "sets_of", "sets_of", "sets_of", s_sets_of⟩) rfl
      exact ⟨fd, F, F.binds fun _ _ _ _ _ _ us hl => match us, hl with | [_, _], _ => rfl⟩
    F_all_sets := by
      obtain ⟨fd, F⟩ := c.def_ 62 (d := ⟨fun K => He.ga K "all_sets", "all_sets", "all_sets", s_all_sets⟩) rfl
      exact ⟨fd, F, F.binds fun _ _ _ _ _ _ us hl => match us, hl with | [_], _ => rfl⟩
    F_set_cost := by
      obtain ⟨fd, F⟩ := c.def_ 63 (d := ⟨fun K => He.ga K "set_cost", "set_cost", "set_cost", s_set_cost⟩) rfl
      exact ⟨fd, F, F.binds fun _ _ _ _ _ _ us hl => match us, hl with | [_, _], _ => rfl⟩
    F_cheaper_sets := by
      obtain ⟨fd, F⟩ := c.def_ 64 (d := ⟨fun K => He.ga K "cheaper_sets", "cheaper_sets", "cheaper_sets", s_cheaper_sets⟩) rfl
      exact ⟨fd, F, F.binds fun _ _ _ _ _ _ us hl => match us, hl with | [_, _], _ => rfl⟩
    F_Telling_shows := by
      obtain ⟨fd, F⟩ := c.def_ 65 (d := ⟨fun K => He.ma K (He.ga K "Telling") "shows", "shows", "Telling.shows", s_Telling_shows⟩) rfl
      exact ⟨fd, F, F.binds fun _ _ _ _ _ _ us hl => match us, hl with | [_, _], _ => rfl⟩
    F_Telling_eq := by
      obtain ⟨fd, F⟩ := c.def_ 66 (d := ⟨fun K => He.ma K (He.ga K "Telling") "__eq__", "__eq__", "Telling.__eq__", s_Telling_eq⟩) rfl
      exact ⟨fd, F, F.binds fun _ _ _ _ _ _ us hl => match us, hl with | [_, _], _ => rfl⟩
    F_NoTelling_init := by
      obtain ⟨fd, F⟩ := c.def_ 67 (d := ⟨fun K => He.ma K (He.ga K "NoTelling") "__init__", "__init__", "NoTelling.__init__", s_NoTelling_init⟩) rfl
      exact ⟨fd, F, F.binds fun _ _ _ _ _ _ us hl => match us, hl with | [_, _], _ => rfl⟩
    F_NoTelling_shows := by
      obtain ⟨fd, F⟩ := c.def_ 68 (d := ⟨fun K => He.ma K (He.ga K "NoTelling") "shows", "shows", "NoTelling.shows", s_NoTelling_shows⟩) rfl
      exact ⟨fd, F, F.binds fun _ _ _ _ _ _ us hl => match us, hl with | [_, _], _ => rfl⟩
    F_NoTelling_eq := by
      obtain ⟨fd, F⟩ := c.def_ 69 (d := ⟨fun K => He.ma K (He.ga K "NoTelling") "__eq__", "__eq__", "NoTelling.__eq__", s_NoTelling_eq⟩) rfl
      exact ⟨fd, F, F.binds fun _ _ _ _ _ _ us hl => match us, hl with | [_, _], _ => rfl⟩
    F_doubt_about := by
      obtain ⟨fd, F⟩ := c.def_ 70 (d := ⟨fun K => He.ga K "doubt_about", "doubt_about", "doubt_about", s_doubt_about⟩) rfl
      exact ⟨fd, F, F.binds fun _ _ _ _ _ _ us hl => match us, hl with | [_, _], _ => rfl⟩
    F_doubts_about := by
      obtain ⟨fd, F⟩ := c.def_ 71 (d := ⟨fun K => He.ga K "doubts_about", "doubts_about", "doubts_about", s_doubts_about⟩) rfl
      exact ⟨fd, F, F.binds fun _ _ _ _ _ _ us hl => match us, hl with | [_, _], _ => rfl⟩
    F_good_sets := by
      obtain ⟨fd, F⟩ := c.def_ 72 (d := ⟨fun K => He.ga K "good_sets", "good_sets", "good_sets", s_good_sets⟩) rfl
      exact ⟨fd, F, F.binds fun _ _ _ _ _ _ us hl => match us, hl with | [_], _ => rfl⟩
    F_cheapest := by
      obtain ⟨fd, F⟩ := c.def_ 73 (d := ⟨fun K => He.ga K "cheapest", "cheapest", "cheapest", s_cheapest⟩) rfl
      exact ⟨fd, F, F.binds fun _ _ _ _ _ _ us hl => match us, hl with | [_], _ => rfl⟩
    F_extensions := by
      obtain ⟨fd, F⟩ := c.def_ 74 (d := ⟨fun K => He.ga K "extensions", "extensions", "extensions", s_extensions⟩) rfl
      exact ⟨fd, F, F.binds fun _ _ _ _ _ _ us hl => match us, hl with | [_], _ => rfl⟩
    F_breaches := by
      obtain ⟨fd, F⟩ := c.def_ 75 (d := ⟨fun K => He.ga K "breaches", "breaches", "breaches", s_breaches⟩) rfl
      exact ⟨fd, F, F.binds fun _ _ _ _ _ _ us hl => match us, hl with | [_], _ => rfl⟩
    F_rescues := by
      obtain ⟨fd, F⟩ := c.def_ 76 (d := ⟨fun K => He.ga K "rescues", "rescues", "rescues", s_rescues⟩) rfl
      exact ⟨fd, F, F.binds fun _ _ _ _ _ _ us hl => match us, hl with | [_], _ => rfl⟩
    F_law_scene := by
      obtain ⟨fd, F⟩ := c.def_ 77 (d := ⟨fun K => He.ga K "_law_scene", "_law_scene", "_law_scene", s_law_scene⟩) rfl
      exact ⟨fd, F, F.binds fun _ _ _ _ _ _ us hl => match us, hl with | [_, _], _ => rfl⟩
    F_law_claims_right := by
      obtain ⟨fd, F⟩ := c.def_ 78 (d := ⟨fun K => He.ga K "_law_claims_right", "_law_claims_right", "_law_claims_right", s_law_claims_right⟩) rfl
      exact ⟨fd, F, F.binds fun _ _ _ _ _ _ us hl => match us, hl with | [], _ => rfl⟩
    F_law_knowing_right := by
      obtain ⟨fd, F⟩ := c.def_ 79 (d := ⟨fun K => He.ga K "_law_knowing_right", "_law_knowing_right", "_law_knowing_right", s_law_knowing_right⟩) rfl
      exact ⟨fd, F, F.binds fun _ _ _ _ _ _ us hl => match us, hl with | [_], _ => rfl⟩
    F_law_evidence_right := by
      obtain ⟨fd, F⟩ := c.def_ 80 (d := ⟨fun K => He.ga K "_law_evidence_right", "_law_evidence_right", "_law_evidence_right", s_law_evidence_right⟩) rfl
      exact ⟨fd, F, F.binds fun _ _ _ _ _ _ us hl => match us, hl with | [], _ => rfl⟩
    F_law_tellings_right := by
      obtain ⟨fd, F⟩ := c.def_ 81 (d := ⟨fun K => He.ga K "_law_tellings_right", "_law_tellings_right", "_law_tellings_right", s_law_tellings_right⟩) rfl
      exact ⟨fd, F, F.binds fun _ _ _ _ _ _ us hl => match us, hl with | [_], _ => rfl⟩
    F_law_answers_right := by
      obtain ⟨fd, F⟩ := c.def_ 82 (d := ⟨fun K => He.ga K "_law_answers_right", "_law_answers_right", "_law_answers_right", s_law_answers_right⟩) rfl
      exact ⟨fd, F, F.binds fun _ _ _ _ _ _ us hl => match us, hl with | [], _ => rfl⟩
    F_law := by
      obtain ⟨fd, F⟩ := c.def_ 83 (d := ⟨fun K => He.ga K "law", "law", "law", s_law⟩) rfl
      exact ⟨fd, F, F.binds fun _ _ _ _ _ _ us hl => match us, hl with | [_], _ => rfl⟩
    a_Claim_total := He.eqO_ok (c.fact 28 rfl)
    a_Claim_worlds := He.eqO_ok (c.fact 29 rfl)
    a_NoTellingdoubts := He.eqO_ok (c.fact 30 rfl)
    a_Scene_count := He.eqO_ok (c.fact 31 rfl)
    a_Scene_fact := He.eqO_ok (c.fact 32 rfl)
    a_Scene_goals := He.eqO_ok (c.fact 33 rfl)
    a_Scene_real := He.eqO_ok (c.fact 34 rfl)
    a_Scene_sentences := He.eqO_ok (c.fact 35 rfl)
    a_Scene_sights := He.eqO_ok (c.fact 36 rfl)
    a_Tellingdoubts := He.eqO_ok (c.fact 37 rfl)
    a_Tellingreasons := He.eqO_ok (c.fact 38 rfl)
    a_Tellingsaid := He.eqO_ok (c.fact 39 rfl)
    b_Claim := He.eqO_ok (c.fact 40 rfl)
    c_BadWorlds := PySem.W.mg_of X G (He.eqO_ok (c.fact 41 rfl))
    c_Claim := PySem.W.mg_of X G (He.eqO_ok (c.fact 42 rfl))
    c_NoTelling := PySem.W.mg_of X G (He.eqO_ok (c.fact 43 rfl))
    c_Scene := PySem.W.mg_of X G (He.eqO_ok (c.fact 44 rfl))
    c_TellError := PySem.W.mg_of X G (He.eqO_ok (c.fact 45 rfl))
    c_Telling := PySem.W.mg_of X G (He.eqO_ok (c.fact 46 rfl))
    cl_Claim := bCls_ok (c.fact 47 rfl)
    cl_NoTelling := bCls_ok (c.fact 48 rfl)
    cl_Scene := bCls_ok (c.fact 49 rfl)
    cl_Telling := bCls_ok (c.fact 50 rfl)
    cr_Claim := bCRead_ok (c.fact 51 rfl)
    cm_Claim_sure := bCMet_ok (c.fact 52 rfl)
    co_Scene := bCallO_ok (c.fact 53 rfl)
    nf_Claim := (c.fact 54 rfl)
    ne_Claim := He.eqO_ok (c.fact 55 rfl)
    ob_Claim := of_decide_eq_true (c.fact 56 rfl)
    m_all_sets := PySem.W.mg_of X G (He.eqO_ok (c.fact 57 rfl))
    kp_all_sets := (c.fact 58 rfl)
    m_are_doubts := PySem.W.mg_of X G (He.eqO_ok (c.fact 59 rfl))
    kp_are_doubts := (c.fact 60 rfl)
    m_are_goals := PySem.W.mg_of X G (He.eqO_ok (c.fact 61 rfl))
    kp_are_goals := (c.fact 62 rfl)
    m_are_numbers := PySem.W.mg_of X G (He.eqO_ok (c.fact 63 rfl))
    kp_are_numbers := (c.fact 64 rfl)
    m_are_people := PySem.W.mg_of X G (He.eqO_ok (c.fact 65 rfl))
    kp_are_people := (c.fact 66 rfl)
    m_are_reasons := PySem.W.mg_of X G (He.eqO_ok (c.fact 67 rfl))
    kp_are_reasons := (c.fact 68 rfl)
    m_are_sentences := PySem.W.mg_of X G (He.eqO_ok (c.fact 69 rfl))
    kp_are_sentences := (c.fact 70 rfl)
    m_are_sights := PySem.W.mg_of X G (He.eqO_ok (c.fact 71 rfl))
    kp_are_sights := (c.fact 72 rfl)
    m_are_world_and_count := PySem.W.mg_of X G (He.eqO_ok (c.fact 73 rfl))
    kp_are_world_and_count := (c.fact 74 rfl)
    m_breaches := PySem.W.mg_of X G (He.eqO_ok (c.fact 75 rfl))
    kp_breaches := (c.fact 76 rfl)
    m_cheaper_sets := PySem.W.mg_of X G (He.eqO_ok (c.fact 77 rfl))
    kp_cheaper_sets := (c.fact 78 rfl)
    m_cheapest := PySem.W.mg_of X G (He.eqO_ok (c.fact 79 rfl))
    kp_cheapest := (c.fact 80 rfl)
    m_check_partner := PySem.W.mg_of X G (He.eqO_ok (c.fact 81 rfl))
    kp_check_partner := (c.fact 82 rfl)
    m_check_scene := PySem.W.mg_of X G (He.eqO_ok (c.fact 83 rfl))
    kp_check_scene := (c.fact 84 rfl)
    m_confused := PySem.W.mg_of X G (He.eqO_ok (c.fact 85 rfl))
    kp_confused := (c.fact 86 rfl)
    m_doubt_about := PySem.W.mg_of X G (He.eqO_ok (c.fact 87 rfl))
    kp_doubt_about := (c.fact 88 rfl)
    m_doubts_about := PySem.W.mg_of X G (He.eqO_ok (c.fact 89 rfl))
    kp_doubts_about := (c.fact 90 rfl)
    m_evidence := PySem.W.mg_of X G (He.eqO_ok (c.fact 91 rfl))
    kp_evidence := (c.fact 92 rfl)
    m_extensions := PySem.W.mg_of X G (He.eqO_ok (c.fact 93 rfl))
    kp_extensions := (c.fact 94 rfl)
    m_good_sets := PySem.W.mg_of X G (He.eqO_ok (c.fact 95 rfl))
    kp_good_sets := (c.fact 96 rfl)
    m_has_all := PySem.W.mg_of X G (He.eqO_ok (c.fact 97 rfl))
    kp_has_all := (c.fact 98 rfl)
    m_holds := PySem.W.mg_of X G (He.eqO_ok (c.fact 99 rfl))
    kp_holds := (c.fact 100 rfl)
    m_is_chain := PySem.W.mg_of X G (He.eqO_ok (c.fact 101 rfl))
    kp_is_chain := (c.fact 102 rfl)
    m_is_circle := PySem.W.mg_of X G (He.eqO_ok (c.fact 103 rfl))
    kp_is_circle := (c.fact 104 rfl)
    m_is_claim := PySem.W.mg_of X G (He.eqO_ok (c.fact 105 rfl))
    kp_is_claim := (c.fact 106 rfl)
    m_is_doubt := PySem.W.mg_of X G (He.eqO_ok (c.fact 107 rfl))
    kp_is_doubt := (c.fact 108 rfl)
    m_is_fact_in := PySem.W.mg_of X G (He.eqO_ok (c.fact 109 rfl))
    kp_is_fact_in := (c.fact 110 rfl)
    m_is_goal := PySem.W.mg_of X G (He.eqO_ok (c.fact 111 rfl))
    kp_is_goal := (c.fact 112 rfl)
    m_is_name := PySem.W.mg_of X G (He.eqO_ok (c.fact 113 rfl))
    kp_is_name := (c.fact 114 rfl)
    m_is_number := PySem.W.mg_of X G (He.eqO_ok (c.fact 115 rfl))
    kp_is_number := (c.fact 116 rfl)
    m_is_one_of := PySem.W.mg_of X G (He.eqO_ok (c.fact 117 rfl))
    kp_is_one_of := (c.fact 118 rfl)
    m_is_path := PySem.W.mg_of X G (He.eqO_ok (c.fact 119 rfl))
    kp_is_path := (c.fact 120 rfl)
    m_is_proof := PySem.W.mg_of X G (He.eqO_ok (c.fact 121 rfl))
    kp_is_proof := (c.fact 122 rfl)
    m_is_ring := PySem.W.mg_of X G (He.eqO_ok (c.fact 123 rfl))
    kp_is_ring := (c.fact 124 rfl)
    m_is_sentence := PySem.W.mg_of X G (He.eqO_ok (c.fact 125 rfl))
    kp_is_sentence := (c.fact 126 rfl)
    m_law_answers_right := PySem.W.mg_of X G (He.eqO_ok (c.fact 127 rfl))
    kp_law_answers_right := (c.fact 128 rfl)
    m_law_claims_right := PySem.W.mg_of X G (He.eqO_ok (c.fact 129 rfl))
    kp_law_claims_right := (c.fact 130 rfl)
    m_law_evidence_right := PySem.W.mg_of X G (He.eqO_ok (c.fact 131 rfl))
    kp_law_evidence_right := (c.fact 132 rfl)
    m_law_knowing_right := PySem.W.mg_of X G (He.eqO_ok (c.fact 133 rfl))
    kp_law_knowing_right := (c.fact 134 rfl)
    m_law_scene := PySem.W.mg_of X G (He.eqO_ok (c.fact 135 rfl))
    kp_law_scene := (c.fact 136 rfl)
    m_law_tellings_right := PySem.W.mg_of X G (He.eqO_ok (c.fact 137 rfl))
    kp_law_tellings_right := (c.fact 138 rfl)
    m_meets := PySem.W.mg_of X G (He.eqO_ok (c.fact 139 rfl))
    kp_meets := (c.fact 140 rfl)
    m_path_through := PySem.W.mg_of X G (He.eqO_ok (c.fact 141 rfl))
    kp_path_through := (c.fact 142 rfl)
    m_rescues := PySem.W.mg_of X G (He.eqO_ok (c.fact 143 rfl))
    kp_rescues := (c.fact 144 rfl)
    m_set_cost := PySem.W.mg_of X G (He.eqO_ok (c.fact 145 rfl))
    kp_set_cost := (c.fact 146 rfl)
    m_sets_of := PySem.W.mg_of X G (He.eqO_ok (c.fact 147 rfl))
    kp_sets_of := (c.fact 148 rfl)
    m_smallest_circle := PySem.W.mg_of X G (He.eqO_ok (c.fact 149 rfl))
    kp_smallest_circle := (c.fact 150 rfl)
    m_unmet_goals := PySem.W.mg_of X G (He.eqO_ok (c.fact 151 rfl))
    kp_unmet_goals := (c.fact 152 rfl)
    m_worlds_left := PySem.W.mg_of X G (He.eqO_ok (c.fact 153 rfl))
    kp_worlds_left := (c.fact 154 rfl)
    fi_Scene_getitem := (c.fact 155 rfl)
    k_LETTERS := He.str_ok X G (c.fact 156 rfl)
    me_NoTelling_shows := bMeth_ok (c.fact 157 rfl)
    me_Scene_sentence := bMeth_ok (c.fact 158 rfl)
    me_Scene_check_set := bMeth_ok (c.fact 159 rfl)
    me_Scene_cost := bMeth_ok (c.fact 160 rfl)
    me_Scene_in_order := bMeth_ok (c.fact 161 rfl)
    me_Scene_remaining := bMeth_ok (c.fact 162 rfl)
    me_Scene_sees := bMeth_ok (c.fact 163 rfl)
    me_Telling_shows := bMeth_ok (c.fact 164 rfl)
    mk_Claim := bMk_ok (c.fact 165 rfl)
    mk_NoTelling := bMk_ok (c.fact 166 rfl)
    mk_Scene := bMk_ok (c.fact 167 rfl)
    mk_Telling := bMk_ok (c.fact 168 rfl)
    n_abs := PySem.W.mg_none_of X G (He.eqO_ok (c.fact 169 rfl))
    n_all := PySem.W.mg_none_of X G (He.eqO_ok (c.fact 170 rfl))
    n_bool := PySem.W.mg_none_of X G (He.eqO_ok (c.fact 171 rfl))
    n_dict := PySem.W.mg_none_of X G (He.eqO_ok (c.fact 172 rfl))
    n_enumerate := PySem.W.mg_none_of X G (He.eqO_ok (c.fact 173 rfl))
    n_int := PySem.W.mg_none_of X G (He.eqO_ok (c.fact 174 rfl))
    n_isinstance := PySem.W.mg_none_of X G (He.eqO_ok (c.fact 175 rfl))
    n_len := PySem.W.mg_none_of X G (He.eqO_ok (c.fact 176 rfl))
    n_list := PySem.W.mg_none_of X G (He.eqO_ok (c.fact 177 rfl))
    n_min := PySem.W.mg_none_of X G (He.eqO_ok (c.fact 178 rfl))
    n_range := PySem.W.mg_none_of X G (He.eqO_ok (c.fact 179 rfl))
    n_reversed := PySem.W.mg_none_of X G (He.eqO_ok (c.fact 180 rfl))
    n_set := PySem.W.mg_none_of X G (He.eqO_ok (c.fact 181 rfl))
    n_sorted := PySem.W.mg_none_of X G (He.eqO_ok (c.fact 182 rfl))
    n_str := PySem.W.mg_none_of X G (He.eqO_ok (c.fact 183 rfl))
    n_sum := PySem.W.mg_none_of X G (He.eqO_ok (c.fact 184 rfl))
    n_tuple := PySem.W.mg_none_of X G (He.eqO_ok (c.fact 185 rfl))
    n_zip := PySem.W.mg_none_of X G (He.eqO_ok (c.fact 186 rfl))
    o_Claim_and := bOwn_ok (c.fact 187 rfl)
    s_Claim := (c.fact 188 rfl)
    o_Claim_contains := bOwn_ok (c.fact 189 rfl)
    o_Claim_eq := bOwn_ok (c.fact 190 rfl)
    o_Claim_len := bOwn_ok (c.fact 191 rfl)
    o_Claim_neg := bOwn_ok (c.fact 192 rfl)
    o_Claim_or := bOwn_ok (c.fact 193 rfl)
    o_Scene_contains := bOwn_ok (c.fact 194 rfl)
    o_Scene_getitem := bOwn_ok (c.fact 195 rfl)
    p_Claim_total := bProp_ok (c.fact 196 rfl)
    p_Claim_worlds := bProp_ok (c.fact 197 rfl)
    p_Scene_actual := bProp_ok (c.fact 198 rfl)
    p_Scene_fact := bProp_ok (c.fact 199 rfl)
    p_Scene_goals := bProp_ok (c.fact 200 rfl)
    p_Scene_names := bProp_ok (c.fact 201 rfl)
    p_Scene_people := bProp_ok (c.fact 202 rfl)
    x_BadWorlds := ⟨(c.fact 203 rfl), (c.fact 204 rfl), of_decide_eq_true (c.fact 205 rfl), of_decide_eq_true (c.fact 206 rfl)⟩
    xm_BadWorlds := fun d cls b h e => by
      unfold exm_BadWorlds at e
      split at e
      · cases e
        have h : cls = .ref (Gam K 16) := h
        subst h
        exact of_decide_eq_true (c.fact 207 rfl)
      · cases e
    xm_TellError := fun d cls b h e => by
      unfold exm_TellError at e
      split at e
      · cases e
        have h : cls = .ref (Gam K 16) := h
        subst h
        exact of_decide_eq_true (c.fact 208 rfl)
      · cases e
theorem noL {K : PySem.W.Frag} (c : SaysC chk fns K) {a : Addr} {xs : List V} {H : Hp} (h : SqL K H a xs) : Rd H a (.lst xs) := by
  rcases h with h | ⟨o, its, n, lk, hc, _⟩
  · exact h
  · have z := List.all_eq_true.mp (c.fact 209 rfl) (a, o) (frag_mem lk)
    rw [hc] at z
    cases z
theorem vrs_ints {Γ : Nat → Addr} {μ : Mp} {H : Hp} : ∀ ns : List Int, VRs Γ μ H (ns.map D.int) (ns.map V.int)
  | [] => .nil
  | n :: r => .cons (.int n) (vrs_ints r)
theorem law_of (good : ∀ ns : List Int, ns.length ≤ 63 → ∃ S, f_law [.scr (ns.map D.int)] [] = .ok (.bl true) S) {P : Program} {w : World} {K : PySem.W.Frag} {h : Heap} {mg : Str → Option Value} {f : Addr} (X : K.In h) (G : h.Ns mainGlobals mg) (hfa : mg ("law" : Str) = some (.ref f)) (c : SaysC chk fns K) :
    ∃ (fd : FuncData) (sp : Sp), (∀ (s : Shared) (v : Value), BindsTo s fd ⟨[v], []⟩ [("_law_script", v)]) ∧ (∀ (H : Hp) (a : Addr) (ns : List Int), ns.length ≤ 63 → Only H → SqL K H a (ns.map V.int) → sp [.ref a] H (fun v _ => v = .bl true) fun _ _ _ => False) ∧
      ∀ base : Heap, K.In base → base.Ns mainGlobals mg → FnOk P w K mg base (L2.CX P w) 14 f fd ["_law_script"] sp := by
  have T := txt_of X G c
  obtain ⟨fd, F⟩ := c.def_ 83 (d := ⟨fun K => He.ga K "law", "law", "law", s_law⟩) rfl
  have e := hfa.symm.trans (PySem.W.mg_of X G (He.eqO_ok (c.fact 210 rfl)))
  cases e
  refine ⟨fd, spF (Gam K) f_law, ?_, ?_, fun base _ _ => okk_law T F (F.binds fun _ _ _ _ _ _ us hl => match us, hl with | [_], _ => rfl)⟩
  · obtain ⟨oc, od, kV, doc, pm, an, cdv, ct, osl, rfl, lk, hcd⟩ := F.ex
    exact fun s v => .of_eq rfl
  · intro H a ns hl hO hS
    obtain ⟨S, e⟩ := good ns hl
    have hm : ∀ p : Addr, p ∉ (⟨[], []⟩ : Mp) := fun p z => by rcases z with z | z <;> cases z
    refine ⟨⟨[], []⟩, [.scr (ns.map D.int)], [], .cons (.scr (hm a) (noL c hS) (vrs_ints ns)) .nil, ⟨rfl, List.nodup_nil, fun i o p hi _ => by simp at hi, fun q hq => by cases hq⟩, ?_⟩
    rw [e]
    intro μ' v' H' _ _ r
    cases r
    rfl
end Pf
open PySem PySem.W PySem.Calls PyProof.Rows
set_option maxRecDepth 100000 in
set_option maxHeartbeats 0 in
theorem PySem.Challenge.cw_tellsome_k34_by_hand_holds : PySem.Challenge.rw_tellsome_k34_by_hand.Holds := by
  w_on; o_law
  refine HandSHeadRun.head_any (r := Pf.RR) (q := view Pf.RR.prog [67]) (H := Pf.hk) (ob := Pf.ob) (M := 30000) (loose := Pf.loose) (d := HandSHeadRun.topDef Pf.RR.prog 67) (kwd := []) Pf.ob_eq
    (by kernel_rfl) (fun s => by kernel_rfl) Pf.run (by kernel_rfl) (by kernel_rfl) (by kernel_rfl) (by rfl) (by first | assumption | decide +kernel) (by decide +kernel) ⟨rfl, rfl, rfl, rfl, rfl, by decide +kernel⟩ ?hw ?hc
  case hw => w_witness2
  case hc =>
    refine Ev.walk_ofW (l := Pf.RwL) (n := 63) (k := 14) (x := "_law_script") (CX := fun w => L2.CX Pf.RwL.prog w) rfl (by decide) (by kernel_rfl) ⟨rfl, by decide, by decide⟩ ?F (fun w H s e s' z => Ev.cx_no _ _ _ _ _ _ z)
    intro w mg fa h Y G hmg0
    obtain ⟨K, KX, c⟩ := Y
    have hmg : mg ("law" : PySem.Str) = some (.ref fa) := by
      have e : (HandSHeadRun.topDef Pf.RR.prog 67).name = ("law" : PySem.Str) := by kernel_rfl
      rw [← e]
      exact hmg0
    obtain ⟨fd, sp, hb, hsp, hF⟩ := Pf.law_of (P := Pf.RwL.prog) (w := w) Pf.good KX G hmg c
    exact ⟨K, fd, sp, KX, hb, hsp, hF⟩
