import PyProof.Rows.All
import Wide.All
import OpenK.AllK
import Wide.FinOn
import HandS.ForMost
import HandS.Head0
import HandS.Head1
import HandS.Head2
import HandS.HeadEnd
import HandS.HeadHook1
import HandS.HeadHook2
import KE.KExcInit
import KE.KIsAll
import HandS.Wide
import HandS.Codes
import PyProof.ReprRoads
import HandS.ForExc
import HandS.ExcInit
import HandS.ExcValue
import HandS.ExcIs
import HandS.IsInst
import HandS.Defaults
import HandS.MakeKw
import HandS.Star
import KE.GoesEnum
import HandS.Walk
import HandS.DictComp
import HandS.RaiseMore
import KE.KDictPairs
import HandS.FStr
import HandS.Property
import HandS.Style
import PySem.Challenge.RW_everyload_k22_errors_and_limits
set_option Elab.async false
set_option maxRecDepth 100000
set_option maxHeartbeats 0
namespace My
open PySem PySem.Spec PyProof.Rows L2
def top (i : Nat) : Stmt := PySem.Challenge.pw_everyload_k22_errors_and_limits.main.body.getD i (.Pass ⟨0, 0, 0, 0⟩)
def bmOf (b : String) : List Value := [.type b, .type "Exception", .type "BaseException", .type "object"]
abbrev oxT (K : PySem.W.Frag) (newId : String) (bmB : List Value) (C : Addr) := ((PySem.W.excInitIn K C bmB newId, PySem.W.excOver K C bmB, PySem.W.hasDictIn K C, PySem.W.keepIn K (.ref C)), (PySem.W.findIn K (.ref C) "__setattr__", PySem.W.findIn K (.ref C) "__getattribute__", PySem.W.findIn K (.ref C) "__getattr__", PySem.W.findIn K (.ref C) "__class__"), PySem.W.subIn K (.ref C) (.type "BaseException"), PySem.W.typeIn K (.ref C), PySem.W.mroIn K C (.type "object"))
abbrev oxE : (Bool × Bool × Bool × Bool) × (Option (Option Value) × Option (Option Value) × Option (Option Value) × Option (Option Value)) × Option Bool × Option Value × Option Bool := ((true, true, true, true), (some (some (.builtin "object.__setattr__")), some (some (.builtin "BaseException.__getattribute__")), some none, some (some (.builtin "object.__class__"))), some true, some (.type "type"), some true)
def kusN : List Value := [Value.ref 24, Value.ref 37, Value.ref 50, Value.type "ValueError", Value.type "LookupError", Value.type "ArithmeticError"]
def cusN : List Value := [Value.ref 70, Value.ref 89, Value.ref 108, Value.ref 127, Value.ref 146, Value.ref 165, Value.ref 184, Value.ref 203, Value.ref 222, Value.ref 241, Value.ref 260, Value.ref 279, Value.ref 298, Value.ref 317, Value.ref 336, Value.ref 355, Value.ref 374, Value.ref 393, Value.ref 412, Value.ref 431, Value.ref 450, Value.ref 469, Value.ref 488, Value.ref 507, Value.ref 519, Value.ref 531, Value.ref 543, Value.ref 555, Value.ref 574, Value.ref 593, Value.ref 612]
def intB (K : PySem.W.Frag) (x : Str) (i : Int) : Bool := match PySem.W.nsIn K mainGlobals x with
  | some (some (.int j _)) => decide (j = i)
  | _ => false
def strB (K : PySem.W.Frag) (x z : Str) : Bool := match PySem.W.nsIn K mainGlobals x with
  | some (some (.str y _)) => decide (y = z)
  | _ => false
def fnA (K : PySem.W.Frag) (a : Addr) : He.FnV := match K.lookup a with
  | some ⟨_, _, .func fd, _⟩ => some (fd.name, fd.qualname, fd.params, fd.body, fd.scope, fd.globals, fd.closure, fd.defaults, fd.builtins)
  | _ => none
def cdA (K : PySem.W.Frag) (a : Addr) (q : Str) : Bool := match K.lookup a with
  | some ⟨_, _, .func fd, _⟩ => PySem.W.codeIn K fd.code q
  | _ => false
abbrev fnV (x q : Str) (st : Stmt) : He.FnV := some (x, q, defArgs st, .stmts (defBody st), defScope st, mainGlobals, [], .none, builtinsNs)
abbrev obsK (K : PySem.W.Frag) := (([(PySem.Str.ofString "ValueFault"), (PySem.Str.ofString "StateFault"), (PySem.Str.ofString "LimitFault"), (PySem.Str.ofString "NotALoad"), (PySem.Str.ofString "NotAHandler"), (PySem.Str.ofString "NotAWeb"), (PySem.Str.ofString "InvalidName"), (PySem.Str.ofString "InvalidText"), (PySem.Str.ofString "InvalidNumber"), (PySem.Str.ofString "InvalidRest"), (PySem.Str.ofString "InvalidChoice"), (PySem.Str.ofString "InvalidLine"), (PySem.Str.ofString "UnknownKind"), (PySem.Str.ofString "InvalidPairs"), (PySem.Str.ofString "InvalidKinds"), (PySem.Str.ofString "InvalidRows"), (PySem.Str.ofString "InvalidNames"), (PySem.Str.ofString "InvalidHandlers"), (PySem.Str.ofString "InvalidEntries"), (PySem.Str.ofString "InvalidIndexes"), (PySem.Str.ofString "InvalidTerms"), (PySem.Str.ofString "InvalidDeeds"), (PySem.Str.ofString "Lacking"), (PySem.Str.ofString "Heeds"), (PySem.Str.ofString "NotLasting"), (PySem.Str.ofString "Meddling"), (PySem.Str.ofString "Refused"), (PySem.Str.ofString "Endless"), (PySem.Str.ofString "NotComparable"), (PySem.Str.ofString "NothingToUndo"), (PySem.Str.ofString "Busy"), (PySem.Str.ofString "TooManyKinds"), (PySem.Str.ofString "TooManyStates"), (PySem.Str.ofString "TooManyRows"), (PySem.Str.ofString "figures_of"), (PySem.Str.ofString "is_number"), (PySem.Str.ofString "is_at_least"), (PySem.Str.ofString "is_name"), (PySem.Str.ofString "plain_name"), (PySem.Str.ofString "is_pair"), (PySem.Str.ofString "wrong_pair_at"), (PySem.Str.ofString "by_name"), (PySem.Str.ofString "plain_pairs"), (PySem.Str.ofString "Load"), (PySem.Str.ofString "_law_source"), (PySem.Str.ofString "_law_pull"), (PySem.Str.ofString "_law_values"), (PySem.Str.ofString "_law_indexes"), (PySem.Str.ofString "_law_others"), (PySem.Str.ofString "_law_tops"), (PySem.Str.ofString "_law_classes"), (PySem.Str.ofString "_law_kin"), (PySem.Str.ofString "_law_right"), (PySem.Str.ofString "law")] : List Str).map (fun x => PySem.W.nsIn K mainGlobals x), ([(PySem.Str.ofString "isinstance"), (PySem.Str.ofString "ValueError"), (PySem.Str.ofString "LookupError"), (PySem.Str.ofString "ArithmeticError"), (PySem.Str.ofString "repr"), (PySem.Str.ofString "len"), (PySem.Str.ofString "all"), (PySem.Str.ofString "int"), (PySem.Str.ofString "abs"), (PySem.Str.ofString "max"), (PySem.Str.ofString "min"), (PySem.Str.ofString "range"), (PySem.Str.ofString "bool"), (PySem.Str.ofString "str"), (PySem.Str.ofString "tuple"), (PySem.Str.ofString "sorted"), (PySem.Str.ofString "enumerate"), (PySem.Str.ofString "dict"), (PySem.Str.ofString "sum")] : List Str).map (fun x => PySem.W.nsIn K mainGlobals x), ([70, 89, 108, 127, 146, 165, 184, 203, 222, 241, 260, 279, 298, 317, 336, 355, 374, 393, 412] : List Addr).map (oxT K "ValueError.__new__" (bmOf "ValueError")), ([431, 450, 469, 488, 507, 519, 531, 543, 555] : List Addr).map (oxT K "LookupError.__new__" (bmOf "LookupError")), ([574, 593, 612] : List Addr).map (oxT K "ArithmeticError.__new__" (bmOf "ArithmeticError")), ([70, 89, 108, 127, 146, 165, 184, 203, 222, 241, 260, 279, 298, 317, 336, 355, 374, 393, 412, 431, 450, 469, 488, 507, 574, 593, 612] : List Addr).map (fun C => PySem.W.findIn K (.ref C) "__init__"), ([67, 86, 105, 124, 143, 162, 181, 200, 219, 238, 257, 276, 295, 314, 333, 352, 371, 390, 409, 428, 447, 466, 485, 504, 571, 590, 609] : List Addr).map (fun C => PySem.W.typeIn K (.ref C)), ([(70, (PySem.Str.ofString "value")), (89, (PySem.Str.ofString "value")), (108, (PySem.Str.ofString "value")), (127, (PySem.Str.ofString "value")), (146, (PySem.Str.ofString "value")), (165, (PySem.Str.ofString "value")), (184, (PySem.Str.ofString "value")), (203, (PySem.Str.ofString "value")), (222, (PySem.Str.ofString "value")), (241, (PySem.Str.ofString "value")), (260, (PySem.Str.ofString "index")), (279, (PySem.Str.ofString "index")), (298, (PySem.Str.ofString "index")), (317, (PySem.Str.ofString "index")), (336, (PySem.Str.ofString "index")), (355, (PySem.Str.ofString "index")), (374, (PySem.Str.ofString "index")), (393, (PySem.Str.ofString "index")), (412, (PySem.Str.ofString "index")), (431, (PySem.Str.ofString "name")), (469, (PySem.Str.ofString "rest")), (488, (PySem.Str.ofString "load")), (507, (PySem.Str.ofString "load")), (574, (PySem.Str.ofString "limit")), (593, (PySem.Str.ofString "limit")), (612, (PySem.Str.ofString "limit")), (450, (PySem.Str.ofString "state")), (450, (PySem.Str.ofString "one")), (450, (PySem.Str.ofString "other")), (912, (PySem.Str.ofString "_pairs")), (912, (PySem.Str.ofString "_counts"))] : List (Addr × Str)).map (fun p => PySem.W.findIn K (.ref p.1) p.2), ([519, 531, 543, 555] : List Addr).map (fun C => PySem.W.excIn K C (bmOf "LookupError") "LookupError.__new__"), (PySem.W.makesIn K 912, PySem.W.plainGet K 912 Str.empty, PySem.W.hasDictIn K 912, PySem.W.plainOver K 912, PySem.W.keepIn K (.ref 912), PySem.W.isFn K (.ref 750)), (PySem.W.findIn K (.ref 912) "__setattr__", PySem.W.findIn K (.ref 912) "__init__", PySem.W.findIn K (.ref 912) "__repr__", PySem.W.findIn K (.ref 912) "size", PySem.W.typeIn K (.ref 909)), (PySem.W.recIn K 790 "property").map (·.head?), ([70, 89, 108, 127, 146, 165, 184, 203, 222, 241, 260, 279, 298, 317, 336, 355, 374, 393, 412] : List Addr).map (fun C => kusN.map (PySem.W.kitOne K (.ref C))), ([431, 450, 469, 488, 507, 519, 531, 543, 555] : List Addr).map (fun C => kusN.map (PySem.W.kitOne K (.ref C))), ([574, 593, 612] : List Addr).map (fun C => kusN.map (PySem.W.kitOne K (.ref C))), ([70, 89, 108, 127, 146, 165, 184, 203] : List Addr).map (fun C => cusN.map (PySem.W.kitOne K (.ref C))), ([222, 241, 260, 279, 298, 317, 336, 355] : List Addr).map (fun C => cusN.map (PySem.W.kitOne K (.ref C))), ([374, 393, 412, 431, 450, 469, 488, 507] : List Addr).map (fun C => cusN.map (PySem.W.kitOne K (.ref C))), ([519, 531, 543, 555, 574, 593, 612] : List Addr).map (fun C => cusN.map (PySem.W.kitOne K (.ref C))), (PySem.W.specialIn K (.ref 790) "__get__", PySem.W.takesIn K (.ref 790)), (PySem.W.specialIn K (.builtin "object.__class__") "__get__", PySem.W.takesIn K (.builtin "object.__class__")), [intB K (PySem.Str.ofString "MOST_KINDS") 8, intB K (PySem.Str.ofString "MOST_HANDLERS") 5, intB K (PySem.Str.ofString "MOST_STATES") 600, intB K (PySem.Str.ofString "MOST_TERMS") 6, intB K (PySem.Str.ofString "MOST_ROWS") 20000, intB K (PySem.Str.ofString "MOST_SIGNS") 8], [strB K (PySem.Str.ofString "LETTERS") (PySem.Str.ofString "abcdefghijklmnopqrstuvwxyz"), strB K (PySem.Str.ofString "SIGNS") (PySem.Str.ofString "abcdefghijklmnopqrstuvwxyz0123456789")], [cdA K 621 (PySem.Str.ofString "figures_of") && PySem.W.keepIn K (.ref 621), cdA K 633 (PySem.Str.ofString "is_number") && PySem.W.keepIn K (.ref 633), cdA K 640 (PySem.Str.ofString "is_at_least") && PySem.W.keepIn K (.ref 640), cdA K 645 (PySem.Str.ofString "is_name") && PySem.W.keepIn K (.ref 645), cdA K 652 (PySem.Str.ofString "plain_name") && PySem.W.keepIn K (.ref 652), cdA K 659 (PySem.Str.ofString "is_pair") && PySem.W.keepIn K (.ref 659), cdA K 666 (PySem.Str.ofString "wrong_pair_at") && PySem.W.keepIn K (.ref 666), cdA K 678 (PySem.Str.ofString "by_name") && PySem.W.keepIn K (.ref 678), cdA K 683 (PySem.Str.ofString "plain_pairs") && PySem.W.keepIn K (.ref 683), cdA K 923 (PySem.Str.ofString "_law_source") && PySem.W.keepIn K (.ref 923), cdA K 930 (PySem.Str.ofString "_law_pull") && PySem.W.keepIn K (.ref 930), cdA K 937 (PySem.Str.ofString "_law_values") && PySem.W.keepIn K (.ref 937), cdA K 944 (PySem.Str.ofString "_law_indexes") && PySem.W.keepIn K (.ref 944), cdA K 949 (PySem.Str.ofString "_law_others") && PySem.W.keepIn K (.ref 949), cdA K 956 (PySem.Str.ofString "_law_tops") && PySem.W.keepIn K (.ref 956), cdA K 963 (PySem.Str.ofString "_law_classes") && PySem.W.keepIn K (.ref 963), cdA K 970 (PySem.Str.ofString "_law_kin") && PySem.W.keepIn K (.ref 970), cdA K 975 (PySem.Str.ofString "_law_right") && PySem.W.keepIn K (.ref 975), cdA K 980 (PySem.Str.ofString "law") && PySem.W.keepIn K (.ref 980), cdA K 67 (PySem.Str.ofString "NotALoad.__init__") && PySem.W.keepIn K (.ref 67), cdA K 86 (PySem.Str.ofString "NotAHandler.__init__") && PySem.W.keepIn K (.ref 86), cdA K 105 (PySem.Str.ofString "NotAWeb.__init__") && PySem.W.keepIn K (.ref 105), cdA K 124 (PySem.Str.ofString "InvalidName.__init__") && PySem.W.keepIn K (.ref 124), cdA K 143 (PySem.Str.ofString "InvalidText.__init__") && PySem.W.keepIn K (.ref 143), cdA K 162 (PySem.Str.ofString "InvalidNumber.__init__") && PySem.W.keepIn K (.ref 162), cdA K 181 (PySem.Str.ofString "InvalidRest.__init__") && PySem.W.keepIn K (.ref 181), cdA K 200 (PySem.Str.ofString "InvalidChoice.__init__") && PySem.W.keepIn K (.ref 200), cdA K 219 (PySem.Str.ofString "InvalidLine.__init__") && PySem.W.keepIn K (.ref 219), cdA K 238 (PySem.Str.ofString "UnknownKind.__init__") && PySem.W.keepIn K (.ref 238), cdA K 257 (PySem.Str.ofString "InvalidPairs.__init__") && PySem.W.keepIn K (.ref 257), cdA K 276 (PySem.Str.ofString "InvalidKinds.__init__") && PySem.W.keepIn K (.ref 276), cdA K 295 (PySem.Str.ofString "InvalidRows.__init__") && PySem.W.keepIn K (.ref 295), cdA K 314 (PySem.Str.ofString "InvalidNames.__init__") && PySem.W.keepIn K (.ref 314), cdA K 333 (PySem.Str.ofString "InvalidHandlers.__init__") && PySem.W.keepIn K (.ref 333), cdA K 352 (PySem.Str.ofString "InvalidEntries.__init__") && PySem.W.keepIn K (.ref 352), cdA K 371 (PySem.Str.ofString "InvalidIndexes.__init__") && PySem.W.keepIn K (.ref 371), cdA K 390 (PySem.Str.ofString "InvalidTerms.__init__") && PySem.W.keepIn K (.ref 390), cdA K 409 (PySem.Str.ofString "InvalidDeeds.__init__") && PySem.W.keepIn K (.ref 409), cdA K 428 (PySem.Str.ofString "Lacking.__init__") && PySem.W.keepIn K (.ref 428), cdA K 447 (PySem.Str.ofString "Heeds.__init__") && PySem.W.keepIn K (.ref 447), cdA K 466 (PySem.Str.ofString "NotLasting.__init__") && PySem.W.keepIn K (.ref 466), cdA K 485 (PySem.Str.ofString "Meddling.__init__") && PySem.W.keepIn K (.ref 485), cdA K 504 (PySem.Str.ofString "Refused.__init__") && PySem.W.keepIn K (.ref 504), cdA K 571 (PySem.Str.ofString "TooManyKinds.__init__") && PySem.W.keepIn K (.ref 571), cdA K 590 (PySem.Str.ofString "TooManyStates.__init__") && PySem.W.keepIn K (.ref 590), cdA K 609 (PySem.Str.ofString "TooManyRows.__init__") && PySem.W.keepIn K (.ref 609), cdA K 750 (PySem.Str.ofString "Load.__init__") && PySem.W.keepIn K (.ref 750), cdA K 909 (PySem.Str.ofString "Load.__repr__") && PySem.W.keepIn K (.ref 909), cdA K 789 (PySem.Str.ofString "Load.size") && PySem.W.keepIn K (.ref 789)], ([621, 633, 640, 645, 652, 659, 666, 678, 683, 923, 930, 937, 944, 949, 956, 963, 970, 975, 980, 67, 86, 105, 124, 143, 162, 181, 200, 219, 238, 257, 276, 295, 314, 333, 352, 371, 390, 409, 428, 447, 466, 485, 504, 571, 590, 609, 750, 909, 789] : List Addr).map (fnA K))
abbrev valK := ([some (some (Value.ref 24)), some (some (Value.ref 37)), some (some (Value.ref 50)), some (some (Value.ref 70)), some (some (Value.ref 89)), some (some (Value.ref 108)), some (some (Value.ref 127)), some (some (Value.ref 146)), some (some (Value.ref 165)), some (some (Value.ref 184)), some (some (Value.ref 203)), some (some (Value.ref 222)), some (some (Value.ref 241)), some (some (Value.ref 260)), some (some (Value.ref 279)), some (some (Value.ref 298)), some (some (Value.ref 317)), some (some (Value.ref 336)), some (some (Value.ref 355)), some (some (Value.ref 374)), some (some (Value.ref 393)), some (some (Value.ref 412)), some (some (Value.ref 431)), some (some (Value.ref 450)), some (some (Value.ref 469)), some (some (Value.ref 488)), some (some (Value.ref 507)), some (some (Value.ref 519)), some (some (Value.ref 531)), some (some (Value.ref 543)), some (some (Value.ref 555)), some (some (Value.ref 574)), some (some (Value.ref 593)), some (some (Value.ref 612)), some (some (Value.ref 621)), some (some (Value.ref 633)), some (some (Value.ref 640)), some (some (Value.ref 645)), some (some (Value.ref 652)), some (some (Value.ref 659)), some (some (Value.ref 666)), some (some (Value.ref 678)), some (some (Value.ref 683)), some (some (Value.ref 912)), some (some (Value.ref 923)), some (some (Value.ref 930)), some (some (Value.ref 937)), some (some (Value.ref 944)), some (some (Value.ref 949)), some (some (Value.ref 956)), some (some (Value.ref 963)), some (some (Value.ref 970)), some (some (Value.ref 975)), some (some (Value.ref 980))], List.replicate 19 (some none : Option (Option Value)), List.replicate 19 oxE, List.replicate 9 oxE, List.replicate 3 oxE, [some (some (Value.ref 67)), some (some (Value.ref 86)), some (some (Value.ref 105)), some (some (Value.ref 124)), some (some (Value.ref 143)), some (some (Value.ref 162)), some (some (Value.ref 181)), some (some (Value.ref 200)), some (some (Value.ref 219)), some (some (Value.ref 238)), some (some (Value.ref 257)), some (some (Value.ref 276)), some (some (Value.ref 295)), some (some (Value.ref 314)), some (some (Value.ref 333)), some (some (Value.ref 352)), some (some (Value.ref 371)), some (some (Value.ref 390)), some (some (Value.ref 409)), some (some (Value.ref 428)), some (some (Value.ref 447)), some (some (Value.ref 466)), some (some (Value.ref 485)), some (some (Value.ref 504)), some (some (Value.ref 571)), some (some (Value.ref 590)), some (some (Value.ref 609))], List.replicate 27 (some (Value.type "function")), List.replicate 31 (some none : Option (Option Value)), List.replicate 4 true, (true, true, true, true, true, true), (some (some (Value.builtin "object.__setattr__")), some (some (Value.ref 750)), some (some (Value.ref 909)), some (some (Value.ref 790)), some (Value.type "function")), some (some (Value.ref 789)), List.replicate 19 [some true, some false, some false, some true, some false, some false], List.replicate 9 [some false, some true, some false, some false, some true, some false], List.replicate 3 [some false, some false, some true, some false, some false, some true], [[some true, some false, some false, some false, some false, some false, some false, some false, some false, some false, some false, some false, some false, some false, some false, some false, some false, some false, some false, some false, some false, some false, some false, some false, some false, some false, some false, some false, some false, some false, some false], [some false, some true, some false, some false, some false, some false, some false, some false, some false, some false, some false, some false, some false, some false, some false, some false, some false, some false, some false, some false, some false, some false, some false, some false, some false, some false, some false, some false, some false, some false, some false], [some false, some false, some true, some false, some false, some false, some false, some false, some false, some false, some false, some false, some false, some false, some false, some false, some false, some false, some false, some false, some false, some false, some false, some false, some false, some false, some false, some false, some false, some false, some false], [some false, some false, some false, some true, some false, some false, some false, some false, some false, some false, some false, some false, some false, some false, some false, some false, some false, some false, some false, some false, some false, some false, some false, some false, some false, some false, some false, some false, some false, some false, some false], [some false, some false, some false, some false, some true, some false, some false, some false, some false, some false, some false, some false, some false, some false, some false, some false, some false, some false, some false, some false, some false, some false, some false, some false, some false, some false, some false, some false, some false, some false, some false], [some false, some false, some false, some false, some false, some true, some false, some false, some false, some false, some false, some false, some false, some false, some false, some false, some false, some false, some false, some false, some false, some false, some false, some false, some false, some false, some false, some false, some false, some false, some false], [some false, some false, some false, some false, some false, some false, some true, some false, some false, some false, some false, some false, some false, some false, some false, some false, some false, some false, some false, some false, some false, some false, some false, some false, some false, some false, some false, some false, some false, some false, some false], [some false, some false, some false, some false, some false, some false, some false, some true, some false, some false, some false, some false, some false, some false, some false, some false, some false, some false, some false, some false, some false, some false, some false, some false, some false, some false, some false, some false, some false, some false, some false]], [[some false, some false, some false, some false, some false, some false, some false, some false, some true, some false, some false, some false, some false, some false, some false, some false, some false, some false, some false, some false, some false, some false, some false, some false, some false, some false, some false, some false, some false, some false, some false], [some false, some false, some false, some false, some false, some false, some false, some false, some false, some true, some false, some false, some false, some false, some false, some false, some false, some false, some false, some false, some false, some false, some false, some false, some false, some false, some false, some false, some false, some false, some false], [some false, some false, some false, some false, some false, some false, some false, some false, some false, some false, some true, some false, some false, some false, some false, some false, some false, some false, some false, some false, some false, some false, some false, some false, some false, some false, some false, some false, some false, some false, some false], [some false, some false, some false, some false, some false, some false, some false, some false, some false, some false, some false, some true, some false, some false, some false, some false, some false, some false, some false, some false, some false, some false, some false, some false, some false, some false, some false, some false, some false, some false, some false], [some false, some false, some false, some false, some false, some false, some false, some false, some false, some false, some false, some false, some true, some false, some false, some false, some false, some false, some false, some false, some false, some false, some false, some false, some false, some false, some false, some false, some false, some false, some false], [some false, some false, some false, some false, some false, some false, some false, some false, some false, some false, some false, some false, some false, some true, some false, some false, some false, some false, some false, some false, some false, some false, some false, some false, some false, some false, some false, some false, some false, some false, some false], [some false, some false, some false, some false, some false, some false, some false, some false, some false, some false, some false, some false, some false, some false, some true, some false, some false, some false, some false, some false, some false, some false, some false, some false, some false, some false, some false, some false, some false, some false, some false], [some false, some false, some false, some false, some false, some false, some false, some false, some false, some false, some false, some false, some false, some false, some false, some true, some false, some false, some false, some false, some false, some false, some false, some false, some false, some false, some false, some false, some false, some false, some false]], [[some false, some false, some false, some false, some false, some false, some false, some false, some false, some false, some false, some false, some false, some false, some false, some false, some true, some false, some false, some false, some false, some false, some false, some false, some false, some false, some false, some false, some false, some false, some false], [some false, some false, some false, some false, some false, some false, some false, some false, some false, some false, some false, some false, some false, some false, some false, some false, some false, some true, some false, some false, some false, some false, some false, some false, some false, some false, some false, some false, some false, some false, some false], [some false, some false, some false, some false, some false, some false, some false, some false, some false, some false, some false, some false, some false, some false, some false, some false, some false, some false, some true, some false, some false, some false, some false, some false, some false, some false, some false, some false, some false, some false, some false], [some false, some false, some false, some false, some false, some false, some false, some false, some false, some false, some false, some false, some false, some false, some false, some false, some false, some false, some false, some true, some false, some false, some false, some false, some false, some false, some false, some false, some false, some false, some false], [some false, some false, some false, some false, some false, some false, some false, some false, some false, some false, some false, some false, some false, some false, some false, some false, some false, some false, some false, some false, some true, some false, some false, some false, some false, some false, some false, some false, some false, some false, some false], [some false, some false, some false, some false, some false, some false, some false, some false, some false, some false, some false, some false, some false, some false, some false, some false, some false, some false, some false, some false, some false, some true, some false, some false, some false, some false, some false, some false, some false, some false, some false], [some false, some false, some false, some false, some false, some false, some false, some false, some false, some false, some false, some false, some false, some false, some false, some false, some false, some false, some false, some false, some false, some false, some true, some false, some false, some false, some false, some false, some false, some false, some false], [some false, some false, some false, some false, some false, some false, some false, some false, some false, some false, some false, some false, some false, some false, some false, some false, some false, some false, some false, some false, some false, some false, some false, some true, some false, some false, some false, some false, some false, some false, some false]], [[some false, some false, some false, some false, some false, some false, some false, some false, some false, some false, some false, some false, some false, some false, some false, some false, some false, some false, some false, some false, some false, some false, some false, some false, some true, some false, some false, some false, some false, some false, some false], [some false, some false, some false, some false, some false, some false, some false, some false, some false, some false, some false, some false, some false, some false, some false, some false, some false, some false, some false, some false, some false, some false, some false, some false, some false, some true, some false, some false, some false, some false, some false], [some false, some false, some false, some false, some false, some false, some false, some false, some false, some false, some false, some false, some false, some false, some false, some false, some false, some false, some false, some false, some false, some false, some false, some false, some false, some false, some true, some false, some false, some false, some false], [some false, some false, some false, some false, some false, some false, some false, some false, some false, some false, some false, some false, some false, some false, some false, some false, some false, some false, some false, some false, some false, some false, some false, some false, some false, some false, some false, some true, some false, some false, some false], [some false, some false, some false, some false, some false, some false, some false, some false, some false, some false, some false, some false, some false, some false, some false, some false, some false, some false, some false, some false, some false, some false, some false, some false, some false, some false, some false, some false, some true, some false, some false], [some false, some false, some false, some false, some false, some false, some false, some false, some false, some false, some false, some false, some false, some false, some false, some false, some false, some false, some false, some false, some false, some false, some false, some false, some false, some false, some false, some false, some false, some true, some false], [some false, some false, some false, some false, some false, some false, some false, some false, some false, some false, some false, some false, some false, some false, some false, some false, some false, some false, some false, some false, some false, some false, some false, some false, some false, some false, some false, some false, some false, some false, some true]], (some (some (Value.builtin "property.__get__")), some true), (some (some (Value.builtin "getset_descriptor.__get__")), some true), List.replicate 6 true, List.replicate 2 true, List.replicate 49 true, [fnV (PySem.Str.ofString "figures_of") (PySem.Str.ofString "figures_of") (top 43), fnV (PySem.Str.ofString "is_number") (PySem.Str.ofString "is_number") (top 49), fnV (PySem.Str.ofString "is_at_least") (PySem.Str.ofString "is_at_least") (top 50), fnV (PySem.Str.ofString "is_name") (PySem.Str.ofString "is_name") (top 51), fnV (PySem.Str.ofString "plain_name") (PySem.Str.ofString "plain_name") (top 52), fnV (PySem.Str.ofString "is_pair") (PySem.Str.ofString "is_pair") (top 54), fnV (PySem.Str.ofString "wrong_pair_at") (PySem.Str.ofString "wrong_pair_at") (top 55), fnV (PySem.Str.ofString "by_name") (PySem.Str.ofString "by_name") (top 57), fnV (PySem.Str.ofString "plain_pairs") (PySem.Str.ofString "plain_pairs") (top 58), fnV (PySem.Str.ofString "_law_source") (PySem.Str.ofString "_law_source") (top 71), fnV (PySem.Str.ofString "_law_pull") (PySem.Str.ofString "_law_pull") (top 72), fnV (PySem.Str.ofString "_law_values") (PySem.Str.ofString "_law_values") (top 73), fnV (PySem.Str.ofString "_law_indexes") (PySem.Str.ofString "_law_indexes") (top 74), fnV (PySem.Str.ofString "_law_others") (PySem.Str.ofString "_law_others") (top 75), fnV (PySem.Str.ofString "_law_tops") (PySem.Str.ofString "_law_tops") (top 76), fnV (PySem.Str.ofString "_law_classes") (PySem.Str.ofString "_law_classes") (top 77), fnV (PySem.Str.ofString "_law_kin") (PySem.Str.ofString "_law_kin") (top 78), fnV (PySem.Str.ofString "_law_right") (PySem.Str.ofString "_law_right") (top 79), fnV (PySem.Str.ofString "law") (PySem.Str.ofString "law") (top 80), fnV (PySem.Str.ofString "__init__") (PySem.Str.ofString "NotALoad.__init__") (inClass (top 4) 0), fnV (PySem.Str.ofString "__init__") (PySem.Str.ofString "NotAHandler.__init__") (inClass (top 5) 0), fnV (PySem.Str.ofString "__init__") (PySem.Str.ofString "NotAWeb.__init__") (inClass (top 6) 0), fnV (PySem.Str.ofString "__init__") (PySem.Str.ofString "InvalidName.__init__") (inClass (top 7) 0), fnV (PySem.Str.ofString "__init__") (PySem.Str.ofString "InvalidText.__init__") (inClass (top 8) 0), fnV (PySem.Str.ofString "__init__") (PySem.Str.ofString "InvalidNumber.__init__") (inClass (top 9) 0), fnV (PySem.Str.ofString "__init__") (PySem.Str.ofString "InvalidRest.__init__") (inClass (top 10) 0), fnV (PySem.Str.ofString "__init__") (PySem.Str.ofString "InvalidChoice.__init__") (inClass (top 11) 0), fnV (PySem.Str.ofString "__init__") (PySem.Str.ofString "InvalidLine.__init__") (inClass (top 12) 0), fnV (PySem.Str.ofString "__init__") (PySem.Str.ofString "UnknownKind.__init__") (inClass (top 13) 0), fnV (PySem.Str.ofString "__init__") (PySem.Str.ofString "InvalidPairs.__init__") (inClass (top 14) 0), fnV (PySem.Str.ofString "__init__") (PySem.Str.ofString "InvalidKinds.__init__") (inClass (top 15) 0), fnV (PySem.Str.ofString "__init__") (PySem.Str.ofString "InvalidRows.__init__") (inClass (top 16) 0), fnV (PySem.Str.ofString "__init__") (PySem.Str.ofString "InvalidNames.__init__") (inClass (top 17) 0), fnV (PySem.Str.ofString "__init__") (PySem.Str.ofString "InvalidHandlers.__init__") (inClass (top 18) 0), fnV (PySem.Str.ofString "__init__") (PySem.Str.ofString "InvalidEntries.__init__") (inClass (top 19) 0), fnV (PySem.Str.ofString "__init__") (PySem.Str.ofString "InvalidIndexes.__init__") (inClass (top 20) 0), fnV (PySem.Str.ofString "__init__") (PySem.Str.ofString "InvalidTerms.__init__") (inClass (top 21) 0), fnV (PySem.Str.ofString "__init__") (PySem.Str.ofString "InvalidDeeds.__init__") (inClass (top 22) 0), fnV (PySem.Str.ofString "__init__") (PySem.Str.ofString "Lacking.__init__") (inClass (top 23) 0), fnV (PySem.Str.ofString "__init__") (PySem.Str.ofString "Heeds.__init__") (inClass (top 24) 0), fnV (PySem.Str.ofString "__init__") (PySem.Str.ofString "NotLasting.__init__") (inClass (top 25) 0), fnV (PySem.Str.ofString "__init__") (PySem.Str.ofString "Meddling.__init__") (inClass (top 26) 0), fnV (PySem.Str.ofString "__init__") (PySem.Str.ofString "Refused.__init__") (inClass (top 27) 0), fnV (PySem.Str.ofString "__init__") (PySem.Str.ofString "TooManyKinds.__init__") (inClass (top 32) 0), fnV (PySem.Str.ofString "__init__") (PySem.Str.ofString "TooManyStates.__init__") (inClass (top 33) 0), fnV (PySem.Str.ofString "__init__") (PySem.Str.ofString "TooManyRows.__init__") (inClass (top 34) 0), fnV (PySem.Str.ofString "__init__") (PySem.Str.ofString "Load.__init__") (inClass (top 69) 0), fnV (PySem.Str.ofString "__repr__") (PySem.Str.ofString "Load.__repr__") (inClass (top 69) 22), fnV (PySem.Str.ofString "size") (PySem.Str.ofString "Load.size") (inClass (top 69) 5)])
def as0 : List Addr := [3, 70, 89, 108, 127, 146, 165, 184, 203, 222, 241, 260, 279, 298, 317, 336, 355, 374, 393, 412, 431, 450, 469, 488, 507, 519, 531, 543, 555, 574, 593, 612, 24, 37, 50, 912, 2, 15, 22, 23, 25, 28, 35, 36, 38, 41, 48, 49, 51, 54, 61, 63, 64, 66, 67, 68, 69, 73, 80, 82]
def as1 : List Addr := [83, 85, 86, 87, 88, 92, 99, 101, 102, 104, 105, 106, 107, 111, 118, 120, 121, 123, 124, 125, 126, 130, 137, 139, 140, 142, 143, 144, 145, 149, 156, 158, 159, 161, 162, 163, 164, 168, 175, 177, 178, 180, 181, 182, 183, 187, 194, 196, 197, 199, 200, 201, 202, 206, 213, 215, 216, 218, 219, 220]
def as2 : List Addr := [221, 225, 232, 234, 235, 237, 238, 239, 240, 244, 251, 253, 254, 256, 257, 258, 259, 263, 270, 272, 273, 275, 276, 277, 278, 282, 289, 291, 292, 294, 295, 296, 297, 301, 308, 310, 311, 313, 314, 315, 316, 320, 327, 329, 330, 332, 333, 334, 335, 339, 346, 348, 349, 351, 352, 353, 354, 358, 365, 367]
def as3 : List Addr := [368, 370, 371, 372, 373, 377, 384, 386, 387, 389, 390, 391, 392, 396, 403, 405, 406, 408, 409, 410, 411, 415, 422, 424, 425, 427, 428, 429, 430, 434, 441, 443, 444, 446, 447, 448, 449, 453, 460, 462, 463, 465, 466, 467, 468, 472, 479, 481, 482, 484, 485, 486, 487, 491, 498, 500, 501, 503, 504, 505]
def as4 : List Addr := [506, 510, 517, 518, 522, 529, 530, 534, 541, 542, 546, 553, 554, 558, 565, 567, 568, 570, 571, 572, 573, 577, 584, 586, 587, 589, 590, 591, 592, 596, 603, 605, 606, 608, 609, 610, 611, 615, 617, 618, 620, 621, 622, 625, 626, 627, 629, 630, 632, 633, 634, 636, 637, 639, 640, 641, 644, 645, 646, 648]
def as5 : List Addr := [649, 651, 652, 653, 655, 656, 658, 659, 660, 662, 663, 665, 666, 667, 669, 670, 672, 673, 674, 677, 678, 679, 682, 683, 684, 686, 687, 689, 690, 691, 693, 694, 696, 697, 698, 701, 702, 703, 705, 706, 708, 709, 710, 713, 714, 715, 718, 719, 720, 723, 724, 725, 728, 729, 730, 732, 733, 735, 736, 744]
def as6 : List Addr := [746, 747, 749, 750, 751, 753, 754, 756, 757, 758, 759, 760, 761, 763, 764, 766, 767, 768, 769, 770, 771, 773, 774, 776, 777, 778, 779, 782, 783, 784, 785, 788, 789, 790, 791, 793, 794, 796, 797, 798, 800, 801, 803, 804, 805, 807, 808, 810, 811, 812, 814, 815, 817, 818, 819, 821, 822, 824, 825, 826]
def as7 : List Addr := [828, 829, 831, 832, 833, 835, 836, 838, 839, 840, 842, 843, 845, 846, 847, 849, 850, 852, 853, 854, 856, 857, 859, 860, 861, 863, 864, 866, 867, 868, 870, 871, 873, 874, 875, 877, 878, 880, 881, 882, 884, 885, 887, 888, 889, 891, 892, 894, 895, 896, 898, 899, 901, 902, 903, 905, 906, 908, 909, 910]
def as8 : List Addr := [911, 913, 914, 917, 919, 920, 922, 923, 924, 926, 927, 929, 930, 931, 933, 934, 936, 937, 938, 940, 941, 943, 944, 945, 948, 949, 950, 952, 953, 955, 956, 957, 959, 960, 962, 963, 964, 966, 967, 969, 970, 971, 974, 975, 976, 979, 980]
def asAll : List Addr := as0 ++ as1 ++ as2 ++ as3 ++ as4 ++ as5 ++ as6 ++ as7 ++ as8
def names0 : List Str := [(PySem.Str.ofString "ValueFault"), (PySem.Str.ofString "StateFault"), (PySem.Str.ofString "LimitFault"), (PySem.Str.ofString "NotALoad"), (PySem.Str.ofString "NotAHandler"), (PySem.Str.ofString "NotAWeb"), (PySem.Str.ofString "InvalidName"), (PySem.Str.ofString "InvalidText"), (PySem.Str.ofString "InvalidNumber"), (PySem.Str.ofString "InvalidRest"), (PySem.Str.ofString "InvalidChoice"), (PySem.Str.ofString "InvalidLine"), (PySem.Str.ofString "UnknownKind"), (PySem.Str.ofString "InvalidPairs"), (PySem.Str.ofString "InvalidKinds"), (PySem.Str.ofString "InvalidRows"), (PySem.Str.ofString "InvalidNames"), (PySem.Str.ofString "InvalidHandlers"), (PySem.Str.ofString "InvalidEntries"), (PySem.Str.ofString "InvalidIndexes"), (PySem.Str.ofString "InvalidTerms"), (PySem.Str.ofString "InvalidDeeds"), (PySem.Str.ofString "Lacking"), (PySem.Str.ofString "Heeds"), (PySem.Str.ofString "NotLasting"), (PySem.Str.ofString "Meddling"), (PySem.Str.ofString "Refused"), (PySem.Str.ofString "Endless"), (PySem.Str.ofString "NotComparable"), (PySem.Str.ofString "NothingToUndo")]
def names1 : List Str := [(PySem.Str.ofString "Busy"), (PySem.Str.ofString "TooManyKinds"), (PySem.Str.ofString "TooManyStates"), (PySem.Str.ofString "TooManyRows"), (PySem.Str.ofString "MOST_KINDS"), (PySem.Str.ofString "MOST_HANDLERS"), (PySem.Str.ofString "MOST_STATES"), (PySem.Str.ofString "MOST_TERMS"), (PySem.Str.ofString "MOST_ROWS"), (PySem.Str.ofString "FIGURES"), (PySem.Str.ofString "PIECE"), (PySem.Str.ofString "figures_of"), (PySem.Str.ofString "read_figures"), (PySem.Str.ofString "LETTERS"), (PySem.Str.ofString "SIGNS"), (PySem.Str.ofString "MOST_SIGNS"), (PySem.Str.ofString "is_number"), (PySem.Str.ofString "is_at_least"), (PySem.Str.ofString "is_name"), (PySem.Str.ofString "plain_name"), (PySem.Str.ofString "is_pair"), (PySem.Str.ofString "wrong_pair_at"), (PySem.Str.ofString "are_ascending"), (PySem.Str.ofString "by_name"), (PySem.Str.ofString "plain_pairs"), (PySem.Str.ofString "added"), (PySem.Str.ofString "first_lacking"), (PySem.Str.ofString "taken_away"), (PySem.Str.ofString "greater_of_both"), (PySem.Str.ofString "lesser_of_both")]
def names2 : List Str := [(PySem.Str.ofString "multiplied"), (PySem.Str.ofString "pairs_text"), (PySem.Str.ofString "read_pairs"), (PySem.Str.ofString "read_pair"), (PySem.Str.ofString "Load"), (PySem.Str.ofString "_law_source"), (PySem.Str.ofString "_law_pull"), (PySem.Str.ofString "_law_values"), (PySem.Str.ofString "_law_indexes"), (PySem.Str.ofString "_law_others"), (PySem.Str.ofString "_law_tops"), (PySem.Str.ofString "_law_classes"), (PySem.Str.ofString "_law_kin"), (PySem.Str.ofString "_law_right")]
def names : List Str := names0 ++ names1 ++ names2
abbrev R : PySem.W.OpenRow := PySem.W.OpenLaw.row PySem.Challenge.rw_everyload_k22_errors_and_limits
abbrev qv : Program := PySem.W.view R.prog [80]
def hk : PySem.W.Hook := ⟨_, fun s => obsK (He.frG s.heap.get? asAll), fun _ => valK, fun _ h => ∃ K : PySem.W.Frag, K.In h ∧ obsK K = valK, fun _ _ e => ⟨_, He.frG_in, e⟩, fun _ _ _ ⟨K, hK, c⟩ k => ⟨K, PySem.W.Frag.In.keeps hK k, c⟩⟩
def ob (s : PySem.W.SharedT) : hk.α := obsK (He.frG (HandSHeadRun.getT s) asAll)
theorem ob_eq (s : PySem.W.SharedT) : ob s = hk.obs s.abs := by
  have e : HandSHeadRun.getT s = s.abs.heap.get? := funext fun a => HandSHeadRun.getT_eq s a
  show obsK (He.frG (HandSHeadRun.getT s) asAll) = obsK (He.frG s.abs.heap.get? asAll)
  rw [e]
theorem run (w : World) : HandSHeadRun.RunEq R qv hk ob 12000 names w := by
  intro os
  kernel_rfl
end My
set_option Elab.async false
set_option maxRecDepth 100000
set_option maxHeartbeats 4000000
namespace My
open PySem L2
section
variable {K : PySem.W.Frag} {σ : L2.St} {H : Hp} {D : Ends} {Q : VK} {te ta tb : TE} {tt : TT} {t u : TS} {g : TG} {x y v : V} {tl : TA} {r : R2}
theorem g_seq (h : t { D with nx := u D } σ H) : tSeq t u D σ H := h
theorem g_asg (h : te σ H fun x H1 => g x σ H1 D.nx) : tAsg te g D σ H := h
theorem g_name {i : Nat} {R : L2.St → Hp → Prop} (h : R (σ.set i (some v)) H) : gName i v σ H R := h
theorem g_var {i : Nat} (e : σ[i]? = some (some v)) (h : Q v H) : tVar i σ H Q := ⟨v, e, h⟩
theorem g_c (h : Q v H) : tC v σ H Q := h
theorem g_op (h : ta σ H fun x H1 => tb σ H1 fun y H2 => r x y H2 Q) : tOp r ta tb σ H Q := h
theorem g_test {R : Bool → Hp → Prop} (h : te σ H fun x H' => ∃ k, x = .bl k ∧ R k H') : tTest te σ H R := h
theorem g_bl {b : Bool} {R : Bool → Prop} (h : R b) : ∃ k, V.bl b = .bl k ∧ R k := ⟨b, rfl, h⟩
theorem g_cb {rr : List V → Hp → VK → Prop} (h : tl σ H fun vs H1 => rr vs H1 Q) : tCB rr tl σ H Q := h
theorem g_cons {R : List V → Hp → Prop} (h : te σ H fun x H1 => tl σ H1 fun xs H2 => R (x :: xs) H2) : tCons te tl σ H R := h
theorem g_nil {R : List V → Hp → Prop} (h : R [] H) : tNil σ H R := h
theorem g_tif (h : tt σ H fun c H1 => if c = true then ta σ H1 Q else tb σ H1 Q) : tIf tt ta tb σ H Q := h
theorem g_ifs (h : tt σ H fun b H1 => if b = true then t D σ H1 else u D σ H1) : tIfS tt t u D σ H := h
theorem g_ret (h : te σ H D.rt) : tRet te D σ H := h
theorem g_drop (h : te σ H fun _ H1 => D.nx σ H1) : tDrop te D σ H := h
theorem g_next (h : D.nx σ H) : tNext D σ H := h
theorem g_i0 {f : Int → Int → V} {i j : Int} (h : Q (f i j) H) : rI0 f (.int i) (.int j) H Q := ⟨i, j, rfl, rfl, h⟩
theorem g_i {C : Int → Int → Prop} {f : Int → Int → V} {i j : Int} (c : C i j) (h : Q (f i j) H) : rI C f (.int i) (.int j) H Q := ⟨i, j, rfl, rfl, c, h⟩
def rInt : List V → Hp → VK → Prop := fun xs H Q => (∃ i, xs = [.int i] ∧ Q (.int i) H) ∨ ∃ k, xs = [.bl k] ∧ Q (.int (if k then 1 else 0)) H
def rAbs : List V → Hp → VK → Prop := fun xs H Q => ∃ i, xs = [.int i] ∧ Q (.int (if i < 0 then -i else i)) H
def rLen (K : PySem.W.Frag) : List V → Hp → VK → Prop := fun xs H Q => ∃ p ys, xs = [.ref p] ∧ (SqL K H p ys ∨ SqT K H p ys) ∧ Q (.int ys.length) H
theorem g_int {i : Int} (h : Q (.int i) H) : rInt [.int i] H Q := .inl ⟨i, rfl, h⟩
theorem g_abs {i : Int} (h : Q (.int (if i < 0 then -i else i)) H) : rAbs [.int i] H Q := ⟨i, rfl, h⟩
theorem g_len {p : Addr} {ys : List V} (e : SqL K H p ys ∨ SqT K H p ys) (h : Q (.int ys.length) H) : rLen K [.ref p] H Q := ⟨p, ys, rfl, e, h⟩
theorem g_ixL {p : Addr} {xs : List V} {i : Int} (e : SqL K H p xs) (a : atI xs i = some v) (h : Q v H) : rIxL K (.ref p) (.int i) H Q := ⟨p, xs, i, v, rfl, rfl, e, a, h⟩
theorem g_ixT {p : Addr} {xs : List V} {i : Int} (e : SqT K H p xs) (a : atI xs i = some v) (h : Q v H) : rIxT K (.ref p) (.int i) H Q := ⟨p, xs, i, v, rfl, rfl, e, a, h⟩
theorem g_ite {c : Prop} [Decidable c] {A B : Prop} (h1 : c → A) (h2 : ¬ c → B) : if decide c = true then A else B := by
  by_cases h : c
  · rw [decide_eq_true h]
    exact iteT (h1 h)
  · rw [decide_eq_false h]
    exact iteF (h2 h)
theorem g_iteT {c : Prop} [Decidable c] {A B : Prop} (hc : c) (h : A) : if decide c = true then A else B := by
  rw [decide_eq_true hc]
  exact iteT h
theorem g_iteF {c : Prop} [Decidable c] {A B : Prop} (hc : ¬ c) (h : B) : if decide c = true then A else B := by
  rw [decide_eq_false hc]
  exact iteF h
theorem g_iteNT {c : Prop} [Decidable c] {A B : Prop} (hc : ¬ c) (h : A) : if (!decide c) = true then A else B := by
  rw [decide_eq_false hc]
  exact iteT h
theorem g_iteNF {c : Prop} [Decidable c] {A B : Prop} (hc : c) (h : B) : if (!decide c) = true then A else B := by
  rw [decide_eq_true hc]
  exact iteF h
theorem g_or {tu : TT} {R : Bool → Hp → Prop} (h : tt σ H fun c H1 => if c = true then R true H1 else tu σ H1 R) : tOr tt tu σ H R := h
theorem g_and {tu : TT} {R : Bool → Hp → Prop} (h : tt σ H fun c H1 => if c = true then tu σ H1 R else R false H1) : tAnd tt tu σ H R := h
theorem g_not {R : Bool → Hp → Prop} (h : tt σ H fun c H1 => R (!c) H1) : tNot tt σ H R := h
end
/-! ### the heap as a list of what is known -/
structure Hs (H0 H : Hp) (O : List Addr) (L : List (Addr × HO)) : Prop where
  on : ∀ x ∈ L, H x.1 = some x.2
  nd : (L.map (·.1)).Nodup
  fr : ∀ b o, H0 b = some o → b ∉ L.map (·.1) → H b = some o
  nw : ∀ x ∈ L, x.1 ∉ O → H0 x.1 = none
section
variable {H0 H H' : Hp} {O : List Addr} {L : List (Addr × HO)} {p : Addr} {o o' : HO}
theorem Hs.get (h : Hs H0 H O L) (k : Nat) (e : L[k]? = some (p, o)) : H p = some o := h.on (p, o) (List.mem_of_getElem? e)
theorem Hs.notin (h : Hs H0 H O L) (n : H p = none) : p ∉ L.map (·.1) := fun m => by
  obtain ⟨x, hx, e⟩ := List.mem_map.mp m
  have q := h.on x hx
  rw [e, n] at q
  cases q
theorem Hs.fresh (h : Hs H0 H O L) (n : H p = none) : H0 p = none := by
  cases e : H0 p with
  | none => rfl
  | some o =>
    have q := h.fr p o e (h.notin n)
    rw [n] at q
    cases q
theorem Hs.start (h : H p = some o) : Hs H H [p] [(p, o)] := by
  refine ⟨fun x hx => ?_, List.nodup_cons.mpr ⟨(fun z => nomatch z), List.nodup_nil⟩, fun b o e _ => e, fun x hx z => ?_⟩
  · rw [List.mem_singleton.mp hx]
    exact h
  · rw [List.mem_singleton.mp hx] at z
    exact absurd List.mem_cons_self z
theorem Hs.start0 : Hs H H [] [] := ⟨(fun _ hx => nomatch hx), List.nodup_nil, (fun b o e _ => e), fun _ hx => nomatch hx⟩
theorem Hs.new (h : Hs H0 H O L) (n : H p = none) : Hs H0 (upd H p o) O ((p, o) :: L) := by
  refine ⟨fun x hx => ?_, List.nodup_cons.mpr ⟨h.notin n, h.nd⟩, fun b u e hb => ?_, fun x hx z => ?_⟩
  · rcases List.mem_cons.mp hx with e | e
    · rw [e]
      exact upd_same
    · rw [upd_ne (ne_of_none (h.on x e) n)]
      exact h.on x e
  · rw [List.map_cons, List.mem_cons, not_or] at hb
    rw [upd_ne hb.1]
    exact h.fr b u e hb.2
  · rcases List.mem_cons.mp hx with e | e
    · rw [e]
      exact h.fresh n
    · exact h.nw x e z
theorem Hs.same (h : Hs H0 H O L) (s : Same H H') : Hs H0 H' O L := ⟨fun x hx => s _ _ (h.on x hx), h.nd, fun b o e hb => s _ _ (h.fr b o e hb), h.nw⟩
theorem Hs.add (h : Hs H0 H O L) (s : Same H H') (n : H p = none) (e : H' p = some o) : Hs H0 H' O ((p, o) :: L) := by
  refine ⟨fun x hx => ?_, List.nodup_cons.mpr ⟨h.notin n, h.nd⟩, fun b u e hb => ?_, fun x hx z => ?_⟩
  · rcases List.mem_cons.mp hx with q | q
    · rw [q]
      exact e
    · exact s _ _ (h.on x q)
  · rw [List.map_cons, List.mem_cons, not_or] at hb
    exact s _ _ (h.fr b u e hb.2)
  · rcases List.mem_cons.mp hx with q | q
    · rw [q]
      exact h.fresh n
    · exact h.nw x q z
theorem Hs.put (h : Hs H0 H O L) (k : Nat) (e : L[k]? = some (p, o)) : Hs H0 (upd H p o') O (L.set k (p, o')) := by
  obtain ⟨hk, ek⟩ := List.getElem?_eq_some_iff.mp e
  have em : (L.set k (p, o')).map (·.1) = L.map (·.1) := by
    rw [List.map_set]
    show (L.map (·.1)).set k p = L.map (·.1)
    have q : (L.map (·.1))[k]'(by rw [List.length_map]; exact hk) = p := by rw [List.getElem_map, ek]
    conv => lhs; rw [← q]
    exact List.set_getElem_self _
  have nw : ∀ x ∈ L.set k (p, o'), x.1 ∉ O → H0 x.1 = none := fun x hx z => by
    have m : x.1 ∈ (L.set k (p, o')).map (·.1) := List.mem_map.mpr ⟨x, hx, rfl⟩
    rw [em] at m
    obtain ⟨y, hy, q⟩ := List.mem_map.mp m
    rw [← q] at z ⊢
    exact h.nw y hy z
  refine ⟨fun x hx => ?_, by rw [em]; exact h.nd, fun b u e1 hb => ?_, nw⟩
  · obtain ⟨j, hj, ej⟩ := List.getElem_of_mem hx
    rw [List.length_set] at hj
    by_cases hjk : j = k
    · subst hjk
      rw [List.getElem_set_self] at ej
      rw [← ej]
      exact upd_same
    · rw [List.getElem_set_ne (fun z => hjk z.symm)] at ej
      have hne : x.1 ≠ p := fun z => by
        have n1 : (L.map (·.1))[j]? = (L.map (·.1))[k]? := by
          rw [List.getElem?_map, List.getElem?_map, List.getElem?_eq_getElem hj, List.getElem?_eq_getElem hk, ej, ek]
          exact congrArg some z
        exact hjk ((List.getElem?_inj (by rw [List.length_map]; exact hj) h.nd).mp n1)
      rw [upd_ne hne]
      exact h.on x (by rw [← ej]; exact List.getElem_mem hj)
  · rw [em] at hb
    have hne : b ≠ p := fun z => hb (by rw [z]; exact List.mem_map.mpr ⟨(p, o), List.mem_of_getElem? e, rfl⟩)
    rw [upd_ne hne]
    exact h.fr b u e1 hb
/-- everything that was tracked ahead is as it was, where all that is known now was new -/
theorem Hs.kept (h : Hs H0 H [] L) : Same H0 H := fun b o e => h.fr b o e fun m => by
  obtain ⟨x, hx, q⟩ := List.mem_map.mp m
  have z := h.nw x hx (fun y => nomatch y)
  rw [q, e] at z
  cases z
/-- but for old objects, which stand as they stood -/
theorem Hs.keptB (h : Hs H0 H O L) (n : ∀ x ∈ L, x.1 ∈ O → H0 x.1 = some x.2) : Same H0 H := fun b o e => by
  by_cases m : b ∈ L.map (·.1)
  · obtain ⟨x, hx, q⟩ := List.mem_map.mp m
    by_cases z : x.1 ∈ O
    · have y := n x hx z
      rw [q, e] at y
      rw [← q, Option.some.inj y]
      exact h.on x hx
    · have y := h.nw x hx z
      rw [q, e] at y
      cases y
  · exact h.fr b o e m
/-- something more of the entry is told -/
theorem Hs.old {b : Addr} {u : HO} (h : Hs H0 H O L) (e : H0 b = some u) (n : b ∉ L.map (·.1)) : Hs H0 H (b :: O) ((b, u) :: L) := by
  refine ⟨fun x hx => ?_, List.nodup_cons.mpr ⟨n, h.nd⟩, fun c o q hc => ?_, fun x hx z => ?_⟩
  · rcases List.mem_cons.mp hx with q | q
    · rw [q]
      exact h.fr b u e n
    · exact h.on x q
  · rw [List.map_cons, List.mem_cons, not_or] at hc
    exact h.fr c o q hc.2
  · rw [List.mem_cons, not_or] at z
    rcases List.mem_cons.mp hx with q | q
    · rw [q] at z
      exact absurd rfl z.1
    · exact h.nw x q z.2
end
section
variable {H0 H : Hp} {O : List Addr} {L : List (Addr × HO)} {Q : VK} {σ : L2.St} {tl : TA}
/-- a new object is laid; then Q -/
def NewO (mk : List V → HO) (xs : List V) (H : Hp) (Q : VK) : Prop := xs.length ≤ sizeLine ∧ ∀ p, H p = none → Q (.ref p) (upd H p (mk xs))
theorem g_lst (h : tl σ H fun xs H1 => NewO .lst xs H1 Q) : tLst tl σ H Q := h
theorem g_tup (h : tl σ H fun xs H1 => NewO .tup xs H1 Q) : tTup tl σ H Q := h
theorem g_newo {mk : List V → HO} {xs : List V} (hs : Hs H0 H O L) (hl : xs.length ≤ 100000) (h : ∀ p H1, H p = none → Hs H0 H1 O ((p, mk xs) :: L) → Q (.ref p) H1) : NewO mk xs H Q :=
  ⟨Nat.le_trans hl (by decide), fun p hp => h p _ hp (hs.new hp)⟩
theorem Hs.mem {p : Addr} {o : HO} (h : Hs H0 H O L) (m : (p, o) ∈ L) : H p = some o := h.on (p, o) m
/-- the list of what is known, with another thing at p -/
inductive Put (p : Addr) (o o' : HO) : List (Addr × HO) → List (Addr × HO) → Prop where
  | head {L : List (Addr × HO)} : Put p o o' ((p, o) :: L) ((p, o') :: L)
  | tail {x : Addr × HO} {L L' : List (Addr × HO)} (h : Put p o o' L L') : Put p o o' (x :: L) (x :: L')
theorem Put.at {p : Addr} {o o' : HO} : ∀ {L L' : List (Addr × HO)}, Put p o o' L L' → ∃ k, L[k]? = some (p, o) ∧ L' = L.set k (p, o')
  | _, _, .head => ⟨0, rfl, rfl⟩
  | _, _, .tail h => by
    obtain ⟨k, e1, e2⟩ := h.at
    exact ⟨k + 1, by simpa using e1, by rw [e2]; rfl⟩
theorem Hs.putM {L' : List (Addr × HO)} {p : Addr} {o o' : HO} (h : Hs H0 H O L) (m : Put p o o' L L') : Hs H0 (upd H p o') O L' := by
  obtain ⟨k, e1, e2⟩ := m.at
  rw [e2]
  exact h.put k e1
/-- behind a call that changed the object at p alone -/
theorem Hs.call1 {H' : Hp} {L' : List (Addr × HO)} {p : Addr} {o o' : HO} (h : Hs H0 H O L) (m : Put p o o' L L') (c : Hs H H' [p] [(p, o')]) : Hs H0 H' O L' := by
  have q := h.putM m
  have e : ∀ b u, upd H p o' b = some u → H' b = some u := fun b u hb => by
    by_cases z : b = p
    · rw [z, upd_same] at hb
      rw [z, ← hb]
      exact c.on (p, o') List.mem_cons_self
    · rw [upd_ne z] at hb
      exact c.fr b u hb fun m => z (List.mem_singleton.mp m)
  exact ⟨fun x hx => e _ _ (q.on x hx), q.nd, (fun b u e1 hb => e _ _ (q.fr b u e1 hb)), q.nw⟩
theorem g_ixM {K : PySem.W.Frag} {p : Addr} {xs : List V} {i : Int} {v : V} {j : Nat} (hs : Hs H0 H O L) (m : (p, .lst xs) ∈ L) (hi : ixN xs.length i = some j) (hv : xs[j]? = some v) (h : Q v H) : rIxL K (.ref p) (.int i) H Q :=
  ⟨p, xs, i, v, rfl, rfl, SqL.of (hs.mem m), (by unfold atI; rw [hi]; exact hv), h⟩
theorem g_setM {L' : List (Addr × HO)} {p : Addr} {xs : List V} {i : Int} {v : V} {j : Nat} {R : Hp → Prop} (hs : Hs H0 H O L) (hi : ixN xs.length i = some j) (e : Put p (.lst xs) (.lst (xs.set j v)) L L') (h : ∀ H1, Hs H0 H1 O L' → R H1) : rSetL (.ref p) (.int i) v H R := by
  obtain ⟨k, e1, _⟩ := e.at
  exact ⟨p, xs, i, j, rfl, rfl, hs.get k e1, hi, h _ (hs.putM e)⟩
theorem g_ixH {K : PySem.W.Frag} {p : Addr} {xs : List V} {i : Int} {v : V} {j k : Nat} (hs : Hs H0 H O L) (e : L[k]? = some (p, .lst xs)) (hi : ixN xs.length i = some j) (hv : xs[j]? = some v) (h : Q v H) : rIxL K (.ref p) (.int i) H Q :=
  ⟨p, xs, i, v, rfl, rfl, SqL.of (hs.get k e), (by unfold atI; rw [hi]; exact hv), h⟩
theorem g_par {i j : Nat} {ta : TA} {D : Ends} (h : ta σ H fun vs H1 => ∃ v w, vs = [v, w] ∧ D.nx ((σ.set i (some v)).set j (some w)) H1) : tPar i j ta D σ H := h
theorem g_two {v w : V} {R : V → V → Prop} (h : R v w) : ∃ x y, [v, w] = [x, y] ∧ R x y := ⟨v, w, rfl, h⟩
theorem g_sub {to ti : TE} {t : V → V → V → Hp → (Hp → Prop) → Prop} {v : V} {R : L2.St → Hp → Prop} (h : to σ H fun o H1 => ti σ H1 fun i H2 => t o i v H2 fun H3 => R σ H3) : gSub to ti t v σ H R := h
theorem g_setL {p : Addr} {xs : List V} {i : Int} {v : V} {j k : Nat} {R : Hp → Prop} (hs : Hs H0 H O L) (e : L[k]? = some (p, .lst xs)) (hi : ixN xs.length i = some j) (h : ∀ H1, Hs H0 H1 O (L.set k (p, .lst (xs.set j v))) → R H1) : rSetL (.ref p) (.int i) v H R :=
  ⟨p, xs, i, j, rfl, rfl, hs.get k e, hi, h _ (hs.put k e)⟩
end
section
variable {X : Cx} {e : Expr} {te : TE} {p pos : Pos}
theorem pInt (z : X.mg "int" = none) (he : PE X e te) (hg : Gl X "int" := by rfl) (hs : starEach [e] X.env = (false, eval e X.env) :: starEach [] X.env := by rfl) : PE X (.Call (.Name "int" p) [e] [] pos) (tCB rInt (tCons te tNil)) :=
  pe_callTy call_int1 hg z PyProof.Rows.boot_int (pa_cons he pa_nil hs) (he := hs)
theorem pAbs (z : X.mg "abs" = none) (he : PE X e te) (hg : Gl X "abs" := by rfl) (hs : starEach [e] X.env = (false, eval e X.env) :: starEach [] X.env := by rfl) : PE X (.Call (.Name "abs" p) [e] [] pos) (tCB rAbs (tCons te tNil)) :=
  pe_callB call_abs hg z PyProof.Rows.boot_abs (pa_cons he pa_nil hs) (he := hs)
theorem pLen (z : X.mg "len" = none) (he : PE X e te) (hg : Gl X "len" := by rfl) (hs : starEach [e] X.env = (false, eval e X.env) :: starEach [] X.env := by rfl) : PE X (.Call (.Name "len" p) [e] [] pos) (tCB (rLen X.K) (tCons te tNil)) :=
  pe_callB call_len_seq hg z PySem.boot_len (pa_cons he pa_nil hs) (he := hs)
end
section
variable {H0 H : Hp} {O : List Addr} {L : List (Addr × HO)} {Q : VK}
theorem g_cat {l b : Addr} {xs zs : List V} (hs : Hs H0 H O L) (m1 : (l, .lst xs) ∈ L) (m2 : (b, .lst zs) ∈ L) (hz : xs.length + zs.length ≤ 100000) (h : ∀ p H1, H p = none → Hs H0 H1 O ((p, .lst (xs ++ zs)) :: L) → Q (.ref p) H1) : rCat (.ref l) (.ref b) H Q :=
  ⟨l, b, xs, zs, rfl, rfl, hs.mem m1, hs.mem m2, Nat.le_trans hz (by decide), fun p hp => h p _ hp (hs.new hp)⟩
end
end My
set_option Elab.async false
set_option maxRecDepth 100000
set_option maxHeartbeats 4000000
namespace My
open PySem PySem.Spec PyProof.Rows L2
/-- a def that wants to know that no repr is under way around it -/
structure FnG (P : Program) (w : World) (K : PySem.W.Frag) (mg : Str → Option Value) (base : Heap) (CX : CXT) (k : Nat) (f : Addr) (fd : FuncData) (ps : List Str) (sp : Sp) : Prop where
  len : ∀ vs H Q E, sp vs H Q E → vs.length = ps.length
  run : ∀ (A : Around) (outer : List Env) (s : Shared) (H : Hp) (args : Args) (us : List Value) (vs : List V) (Q : VK) (E : XK), Room k A → A.guards = some [] → Env0 P w K mg base A outer s H → BindsTo s fd args (ps.zip us) → Vals vs us → sp vs H Q E →
    codeAny (model P w) A (.call (.ref f) args) (CR CX outer P w H s Q E) s
section
variable {CX : CXT} {P : Program} {w : World} {K : PySem.W.Frag} {mg : Str → Option Value} {base : Heap} {k : Nat} {f : Addr}
theorem fnG_of {name qual : Str} {params : Arguments} {body : List Stmt} {scope : Scope} {dV kV doc pm cdv ct oc : Value} {an od : Option Addr}
    {osl : Array (Option Value)} {N ps : List Str} {sp : Sp} (lk : K.lookup f = some ⟨oc, od, .func (PySem.W.fnOf name qual params body scope dV kV doc pm an cdv ct), osl⟩) (hcd : PySem.W.codeIn K cdv qual = true) (S : FnScope N ps scope)
    (len : ∀ vs H Q E, sp vs H Q E → vs.length = ps.length)
    (hbody : ∀ (A : Around) (outer : List Env) (s : Shared) (H : Hp) (vs : List V) (Q : VK) (E : XK), Room k (A.deeper (envOfC qual scope s.heap.objs.size f cdv)) → (A.deeper (envOfC qual scope s.heap.objs.size f cdv)).guards = some [] → sp vs H Q E →
      ∃ t, PSs (cxOf CX P w K mg base N qual scope f cdv A outer s H E) body t ∧ t { nx := fun _ H' => Q .non H', rt := Q } (start N vs) H) :
    FnG P w K mg base CX (k + 1) f (PySem.W.fnOf name qual params body scope dV kV doc pm an cdv ct) ps sp := by
  refine ⟨len, fun A outer s H args us vs Q E hr hg e0 hb r hsp => ?_⟩
  have kx : K.In s.heap := e0.mod.kin.keeps fun b o e => (e0.bs b o e).1
  have lim : s.heap.NoLimit := e0.mod.nolimit.keeps fun b o e => (e0.bs b o e).1
  have kinds : ∀ y ∈ ps.zip us, scope.names.lookup y.1 = some .local ∨ (scope.names.lookup y.1 = some .cell ∧ ((cellsFrom (s.heap.objs.size + 1) scope.names []).lookup y.1).isSome = true) := by
    rintro ⟨n, v⟩ hy
    rcases S.par n (List.of_mem_zip hy).1 with q | q
    · exact .inl q
    · exact .inr ⟨q, PySem.W.cellsFrom_some _ _ _ (.inl q)⟩
  refine codeAny_call_function hr.depth (kx _ _ lk) rfl S.co S.gen rfl (PySem.W.codeRec_of kx hcd) (hb _ _ _ _ ?_)
  refine wpAny_newFunctionEnv_cells S.kind kinds fun env he s1 x => ?_
  subst he
  refine ⟨lim.keeps x.toInCall.keep, codeAny_func ?_⟩
  obtain ⟨t, ht, hq⟩ := hbody A outer s H vs Q E (hr.deeper _) hg hsp
  have I : Inv (cxOf CX P w K mg base N qual scope f cdv A outer s H E) [] (start N vs) H s1 := inv_start S hr.hd e0 (len _ _ _ _ hsp) r x
  have fin : ∀ {s' : Shared} {σ' : L2.St} {H' : Hp} {v : V} {u : Value}, Inv (cxOf CX P w K mg base N qual scope f cdv A outer s H E) [] σ' H' s' → RelV v u → Q v H' → CE outer P w H s Q u s' :=
    fun {_ _ H' v _} J rv q => ⟨v, H', J.os, J.bare, J.base, J.hok, rv, q⟩
  refine wpAny_mono (ht.run [] s1 (start N vs) H _ I hq) (fun fl s' hs => ?_) fun e s' hs => hs
  cases fl with
  | ret u =>
    obtain ⟨v, σ', H', J, rv, q⟩ := hs
    exact fin J rv q
  | next =>
    obtain ⟨σ', H', J, q⟩ := hs
    exact fin (v := V.non) (u := Value.none) J rfl q
  | brk =>
    obtain ⟨_, _, _, q⟩ := hs
    exact q.elim
  | cont =>
    obtain ⟨_, _, _, q⟩ := hs
    exact q.elim
theorem okG {x qual : Str} {st : Stmt} {fd : FuncData} {N ps : List Str} {sp : Sp} (F : Fun K x qual st f fd) (S : FnScope N ps (defScope st)) (len : ∀ vs H Q E, sp vs H Q E → vs.length = ps.length)
    (hbody : ∀ (cdv : Value) (A : Around) (outer : List Env) (s : Shared) (H : Hp) (vs : List V) (Q : VK) (E : XK), Room k (A.deeper (envOfC qual (defScope st) s.heap.objs.size f cdv)) → (A.deeper (envOfC qual (defScope st) s.heap.objs.size f cdv)).guards = some [] → sp vs H Q E →
      ∃ t, PSs (cxOf CX0 P w K mg base N qual (defScope st) f cdv A outer s H E).nox (defBody st) t ∧ t { nx := fun _ H' => Q .non H', rt := Q } (start N vs) H) : FnG P w K mg base CX0 (k + 1) f fd ps sp := by
  obtain ⟨oc, od, kV, doc, pm, an, cdv, ct, osl, rfl, lk, hcd⟩ := F.ex
  refine fnG_of lk hcd S len fun A outer s H vs Q E hr hg hsp => ?_
  obtain ⟨t, h, q⟩ := hbody cdv A outer s H vs Q E hr hg hsp
  exact ⟨t, h.nox, q⟩
end
section
variable {X : Cx} {CX : CXT} {k : Nat} {f : Addr} {fd : FuncData} {ps : List Str} {sp : Sp} {E : XK} {x : Str} {p pos : Pos} {e : Expr} {es : List Expr} {t : TA}
theorem pe_callG (F : FnG X.prog X.w X.K X.mg X.base CX k f fd ps sp) (hr : Room k X.A) (gd : X.A.guards = some []) (hg : Gl X x) (hm : X.mg x = some (.ref f)) (hk : PySem.W.keepIn X.K (.ref f) = true) (hb : Binds X.K fd ps []) (hx : Passes CX X E)
    (ha : PA X (e :: es) t) (hdb : (x == ("__debug__" : Str)) = false := by decide) (he : starEach (e :: es) X.env = (false, eval e X.env) :: starEach es X.env := by rfl) (hpl : (backTo pos (starEach es X.env)).any (·.1) = false := by rfl) :
    PE X (.Call (.Name x p) (e :: es) [] pos) (tCall sp [] E t) := by
  refine ⟨fun pins s σ H Q I h => ?_⟩
  refine wpAny_Call_Name_kw (ld_glob I hg hm ?_ hdb)
  refine PySem.W.callWith_K (h₀ := X.base) I.ok.mod.kin hk (thn (ha.run pos pins s σ H _ I h) fun us s1 ⟨vs, H1, I1, r, q⟩ => ⟨I1.kIn, ?_⟩) he hpl
  replace q : sp vs H1 Q E := by
    have z : sp (vs ++ []) H1 Q E := q
    rw [List.append_nil] at z
    exact z
  have hl : (us ++ []).length = ps.length := by
    rw [List.append_nil, ← r.length]
    exact F.len _ _ _ _ q
  have bd := hb s1 us I1.kIn hl
  rw [List.append_nil] at bd
  refine wpAny_call (codeAny_mono (F.run X.A X.stack s1 H1 ⟨us, []⟩ us vs Q E hr gd I1.env0 bd r q) fun r s' hq => ?_)
  cases r with
  | error er => exact hx pins σ _ _ er s' I1 hq
  | ok fl =>
    cases fl with
    | ret u => exact I1.after hq
    | next => exact False.elim hq
    | brk => exact False.elim hq
    | cont => exact False.elim hq
end
/-- the law is called where no repr is under way -/
theorem lawCallG {P : Program} {w : World} {K : PySem.W.Frag} {mg mb : Str → Option Value} {k : Nat} {fa a : Addr} {fd : FuncData} {x : Str} {sp : Sp} {s₁ : Shared} {vs : List Value} {ns : List Int}
    (kx : K.In s₁.heap) (hns : s₁.heap.Ns mainGlobals mg) (hb : s₁.heap.Ns builtinsNs mb) (hbb : ∀ x : Str, x ≠ "__name__" → mb x = bootBuiltins x) (lim : s₁.heap.NoLimit) (gens : s₁.gens = #[])
    (ha : s₁.heap.get? a = some { cls := .type "list", data := .seq vs.toArray }) (hi : IntsAre vs ns) (hl : ns.length ≤ sizeLine) (hr : Room k callerA)
    (F : ∀ base : Heap, K.In base → base.Ns mainGlobals mg → FnG P w K mg base CX0 k fa fd [x] sp) (hbind : ∀ (s : Shared) (u : Value), BindsTo s fd ⟨[u], []⟩ [(x, u)])
    (hsp : ∀ H : Hp, Only H → SqL K H a (ns.map V.int) → sp [.ref a] H (fun v _ => v = .bl true) fun _ _ _ => False) :
    codeAny (model P w) callerA (.call (.ref fa) ⟨[.ref a], []⟩) (fun r s' => r = .ok (.ret (.bool true)) ∧ OldK s₁.heap s'.heap ∧ s'.os = s₁.os ∧ AllBare s'.gens) s₁ := by
  have rv := vals_ints hi
  have go : ∀ H : Hp, Only H → SqL K H a (ns.map V.int) → HOk P w H s₁.heap → (∀ b, H b ≠ none → b = a ∧ K.lookup a = none) →
      codeAny (model P w) callerA (.call (.ref fa) ⟨[.ref a], []⟩) (fun r s' => r = .ok (.ret (.bool true)) ∧ OldK s₁.heap s'.heap ∧ s'.os = s₁.os ∧ AllBare s'.gens) s₁ := by
    intro H only hS hok hA
    have free : ∀ {b : Addr} {o : Obj}, s₁.heap.get? b = some o → (b = a → K.lookup a = none → False) → H b = none := fun {b o} e no => by
      cases q : H b with
      | none => rfl
      | some u =>
        obtain ⟨e1, e2⟩ := hA b (by rw [q]; simp)
        exact (no e1 e2).elim
    have dictFree : ∀ {b : Addr} {o : Obj} {es : Array DictEntry} {ep : Nat}, s₁.heap.get? b = some o → o.data = .dict es ep → H b = none := fun {b o es ep} e d => free e fun z _ => by
      rw [z, ha] at e
      cases e
      cases d
    have nsB : ∀ {b : Addr} {m : Str → Option Value}, s₁.heap.Ns b m → (hidT s₁.heap H).Ns b m := fun {b m} ⟨o, es, ep, e, d, r⟩ => ⟨o, es, ep, hidT_get e (dictFree e d), d, r⟩
    have kB : K.In (hidT s₁.heap H) := fun b o e => hidT_get (kx b o e) (free (kx b o e) fun z q => by
      rw [z, q] at e
      cases e)
    have mB : Mod K mg (hidT s₁.heap H) := ⟨kB, nsB hns, ⟨mb, nsB hb, hbb⟩, let ⟨mc, h1, h2⟩ := lim; ⟨mc, nsB h1, h2⟩⟩
    have e0 : Env0 P w K mg (hidT s₁.heap H) callerA [] s₁ H :=
      ⟨rfl, mB, fun b o e => of_hidT e, Nat.le_of_eq (hidT_size _ _), trivial, fun b hb => absurd (show b ∈ ([] : List Addr) from hb) (by simp), hok, .of_eq gens⟩
    refine codeAny_mono ((F _ kB (nsB hns)).run callerA [] s₁ H ⟨[.ref a], []⟩ [.ref a] [.ref a] _ _ hr rfl e0 (hbind s₁ (.ref a)) (.cons rfl .nil) (hsp H only hS)) fun r s' h => ?_
    rcases r with er | fl
    · exact False.elim h
    cases fl with
    | next => exact False.elim h
    | brk => exact False.elim h
    | cont => exact False.elim h
    | ret u =>
      obtain ⟨v, H', os, bare, un, hok', r', q⟩ := h
      obtain rfl : v = .bl true := q
      obtain rfl : u = Value.bool true := r'
      refine ⟨rfl, OldK.of_keep fun b o e => ?_, os, bare⟩
      cases q : H b with
      | none => exact un.keep b o e q (by intro z; exact absurd (show b ∈ ([] : List Addr) from z) (by simp)) (by simp)
      | some u =>
        rcases only b with z | ⟨ob, xs, z⟩
        · rw [q] at z
          cases z
        · obtain ⟨e1, _⟩ := hok b _ z
          obtain ⟨e2, _⟩ := hok' b _ (un.frzs b ob _ z)
          rw [e] at e1
          cases e1
          exact e2
  cases hk : K.lookup a with
  | some o =>
    have e := kx a o hk
    rw [ha] at e
    cases e
    exact go (fun _ => none) (fun _ => .inl rfl) (.inr ⟨_, vs.toArray, _, hk, rfl, rfl, rfl, by rw [List.size_toArray, hi.length]; exact hl, by simpa using rv⟩) (fun b u z => nomatch z) (fun b z => absurd rfl z)
  | none =>
    have at_ : ∀ {b : Addr} {u : HO}, (if b = a then some (HO.frz { cls := .type "list", data := .seq vs.toArray } (.lst (ns.map V.int))) else none) = some u → b = a ∧ u = HO.frz { cls := .type "list", data := .seq vs.toArray } (.lst (ns.map V.int)) := fun {b u} z => by
      by_cases hb : b = a
      · rw [if_pos hb] at z
        exact ⟨hb, (Option.some.inj z).symm⟩
      · rw [if_neg hb] at z
        cases z
    refine go (fun b => if b = a then some (.frz { cls := .type "list", data := .seq vs.toArray } (.lst (ns.map V.int))) else none) (fun b => ?_) (.inl (.inr ⟨{ cls := .type "list", data := .seq vs.toArray }, if_pos rfl⟩)) (fun b u z => ?_) (fun b z => ?_)
    · by_cases hb : b = a
      · exact .inr ⟨_, _, if_pos hb⟩
      · exact .inl (if_neg hb)
    · obtain ⟨rfl, rfl⟩ := at_ z
      exact ⟨ha, by rw [List.length_map]; exact hl, vs, _, rv, ha⟩
    · by_cases hb : b = a
      · exact ⟨hb, hk⟩
      · exact absurd (if_neg hb) z
theorem walkG {l : PySem.W.OpenLaw} {n k : Nat} {q : Program} {loose : List Str} {XP : (Str → Option Value) → Heap → Prop} {YP : World → Heap → Prop} {d : DefRec} {K : Params → PySem.W.Frag} {sp : World → Sp} {x : Str}
    (hn : l.most = some n) (hn2 : n ≤ sizeLine) (hdf : d.params.defaults = []) (hr : Room k callerA)
    (hY : ∀ (w : World) (h : Heap), YP w h → (K w.params).In h)
    (F : ∀ (w : World) (mg : Str → Option Value) (fa : Addr) (h : Heap), (K w.params).In h → h.Ns mainGlobals mg → mg d.name = some (.ref fa) →
      ∃ fd : FuncData, (∀ (s : Shared) (u : Value), BindsTo s fd ⟨[u], []⟩ [(x, u)]) ∧
        ∀ base : Heap, (K w.params).In base → base.Ns mainGlobals mg → FnG l.prog w (K w.params) mg base CX0 k fa fd [x] (sp w))
    (hsp : ∀ (w : World) (H : Hp) (a : Addr) (ns : List Int), ns.length ≤ n → Only H → SqL (K w.params) H a (ns.map V.int) → sp w [.ref a] H (fun v _ => v = .bl true) fun _ _ _ => False) :
    PySem.W.WalkO q loose XP YP l.row.toRowW d [] (fun f vs => PySem.call f vs) := by
  refine Att.attach_call hn hdf fun w s₀ s₁ mg mb fa o pm cd doc a vs ns G Y ho hd hcd hmg hobj hints hlen hg => ?_
  have kx := hY w _ Y
  obtain ⟨fd, hb, hF⟩ := F w mg fa _ kx G.T.g hmg
  exact lawCallG kx G.T.g G.T.b G.T.builtins G.T.nolimit hg hobj hints (Nat.le_trans hlen hn2) hr hF hb (fun H hO hS => hsp w H a ns hlen hO hS)
end My
set_option Elab.async false
set_option maxRecDepth 100000
set_option maxHeartbeats 4000000
namespace My
open PySem PySem.Spec PyProof.Rows L2
/-! ### repr of what is tracked, own instances among it -/
/-- there is room around for k calls and d looks within one another -/
structure Rm (X : Cx) (k d : Nat) (A : Around) : Prop where
  hd : A.handled = none
  dp : A.depth + 3 * k + 5 + 2 * d < recursionLimit
  un : A.units + 16 * k + 200 + 2 * d < cLine
  fr : A.frames = some X.stack
/-- repr(x) is t, wherever what is tracked in H is tracked; as: the lists that are looked through -/
def RV (X : Cx) (k : Nat) (H : Hp) (as : List Addr) (d : Nat) (x : V) (t : Str) : Prop := ∀ H1, Same H H1 → ∀ u, RelV x u → ∀ base, base + t.length ≤ sizeLine → ∀ (σ : L2.St) (pins : List (Addr × Obj)) (A : Around) (g : List Code) (E : Value → Shared → Prop) (s : Shared) (Q : Str → Shared → Prop),
  A.guards = some g → (∀ b ∈ as, Clear g b) → Rm X k d A → Inv X pins σ H1 s → (∀ H2 s', Same H1 H2 → Inv X pins σ H2 s' → Q t s') → wpAny (model X.prog X.w) A (pyReprUnder base u) Q E s
theorem RV.mono {X : Cx} {k : Nat} {H H' : Hp} {as as' : List Addr} {d d' : Nat} {x : V} {t : Str} (h : RV X k H as d x t) (e : Same H H') (ha : ∀ b ∈ as, b ∈ as') (hd : d ≤ d') : RV X k H' as' d' x t :=
  fun H1 e1 u r base hb σ pins A g E s Q hg hc R I q => h H1 (e.trans e1) u r base hb σ pins A g E s Q hg (fun b hm => hc b (ha b hm)) ⟨R.hd, by have := R.dp; omega, by have := R.un; omega, R.fr⟩ I q
theorem RV.is {X : Cx} {k : Nat} {H : Hp} {as : List Addr} {d : Nat} {x : V} {t : Str} (h : ∀ u, RelV x u → ReprIs X.prog X.w u t) : RV X k H as d x t :=
  fun H1 _ u r base hb _ _ A _ E s _ _ _ _ I q => h u r base hb A E s _ fun tk => q H1 _ (Same.refl H1) (I.tok tk)
theorem RV.non {X : Cx} {k : Nat} {H : Hp} {as : List Addr} {d : Nat} : RV X k H as d .non "None" := .is fun u r => by
  cases (show u = Value.none from r)
  exact ReprIs.none
theorem RV.bl {X : Cx} {k : Nat} {H : Hp} {as : List Addr} {d : Nat} (b : Bool) : RV X k H as d (.bl b) (if b then "True" else "False") := .is fun u r => by
  cases (show u = Value.bool b from r)
  exact ReprIs.bool b
theorem RV.int {X : Cx} {k : Nat} {H : Hp} {as : List Addr} {d : Nat} {i : Int} (hi : i.natAbs.log2 < 1920) : RV X k H as d (.int i) (toString i) := .is fun u r => by
  obtain ⟨t, q⟩ := (show ∃ t, u = Value.int i t from r)
  cases q
  exact ReprIs.int t hi
theorem RV.str {X : Cx} {k : Nat} {H : Hp} {as : List Addr} {d : Nat} {y : Str} (hy : (reprText y).length ≤ sizeLine) : RV X k H as d (.str y) (reprText y) := .is fun u r => by
  obtain ⟨t, q⟩ := (show ∃ t, u = Value.str y t from r)
  cases q
  exact ReprIs.str y t hy
/-- a tuple of leaves -/
theorem RV.tup {X : Cx} {k : Nat} {H : Hp} {a : Addr} {xs : List V} {ts : List Str} {d : Nat} (e : H a = some (.tup xs)) (hl : ts.length = xs.length) (h : ∀ (i : Nat) (x : V) (t : Str), xs[i]? = some x → ts[i]? = some t → ∀ u, RelV x u → ReprIs X.prog X.w u t) :
    RV X k H [a] (d + 1) (.ref a) (tupleText ts) := by
  intro H1 e1 u r base hb σ pins A g E s Q hg hc R I q
  cases (show u = Value.ref a from r)
  obtain ⟨_, its, rv, o, h1, h2, n, h3⟩ := (show ObjOk X.prog X.w H1 s.heap a (.tup xs) from I.hok a _ (e1 _ _ e))
  have all : ∀ (ys : List V) (us : List Value) (zs : List Str), Vals ys us → zs.length = ys.length → (∀ (i : Nat) (x : V) (t : Str), ys[i]? = some x → zs[i]? = some t → ∀ u, RelV x u → ReprIs X.prog X.w u t) → ReprAllK X.prog X.w [] s.heap d us zs := by
    intro ys us zs r
    induction r generalizing zs with
    | nil =>
      intro hz _
      cases zs with
      | nil => exact .nil
      | cons _ _ => cases hz
    | cons r0 _ ih =>
      intro hz hh
      cases zs with
      | nil => cases hz
      | cons z zs => exact .cons (.of_is (hh 0 _ z rfl rfl _ r0) _ _ _) (ih zs (Nat.succ.inj hz) fun i x t e1 e2 => hh (i + 1) x t (by simpa using e1) (by simpa using e2))
  have K := ReprK.tuple (prog := X.prog) (w := X.w) (h₀ := s.heap) (as := []) (d := d) h1 h2 h3 (by simp) (all xs its ts rv hl h)
  exact K base hb A g E s Q hg hc (by have := R.un; omega) (fun _ _ z => z) fun h' tk kp => q H1 _ (Same.refl H1) (I.kept kp)
/-! ### the pins of a state -/
section
variable {X : Cx} {pins : List (Addr × Obj)} {σ : L2.St} {H : Hp} {s : Shared}
/-- a new object, pinned -/
theorem inv_pinNew {o : Obj} (I : Inv X pins σ H s) (hf : o.isFreed = false) (hd : ∀ v, o.data ≠ .cell v) : Inv X ((s.heap.objs.size, o) :: pins) σ H { s with heap := s.heap.push o } := by
  have J : Inv X pins σ H { s with heap := s.heap.push o } := I.kept (t' := s.toks) fun b u e => Heap.get?_push_of_some _ e
  refine J.pins_of fun p hp => ?_
  rcases List.mem_cons.mp hp with e | e
  · rw [e]
    exact ⟨Heap.get?_push_size _ hf, I.hok.fresh (Nat.le_refl _), Nat.ne_of_gt I.lt, I.nofs (Nat.le_refl _), hd⟩
  · exact J.pin p (List.mem_append_right _ e)
theorem inv_unpin {p : Addr × Obj} (I : Inv X (p :: pins) σ H s) : Inv X pins σ H s := I.pins_of fun q hq => I.pin q (List.mem_append_right _ (List.mem_cons_of_mem _ hq))
/-- a pinned object of ours turns -/
theorem inv_repin {P : Addr} {o o' : Obj} {h' : Heap} {t' : Nat} (I : Inv X ((P, o) :: pins) σ H s) (np : ∀ p ∈ X.pn ++ pins, p.1 ≠ P) (big : X.s_0.heap.objs.size ≤ P) (hd : ∀ v, o'.data ≠ .cell v) (hP : h'.get? P = some o') (k : ∀ b u, b ≠ P → s.heap.get? b = some u → h'.get? b = some u) :
    Inv X ((P, o') :: pins) σ H { s with heap := h', toks := t' } := by
  obtain ⟨e, n, ne, nf, d⟩ := I.pin (P, o) (List.mem_append_right _ List.mem_cons_self)
  have nc : ∀ x c, X.env.cells.lookup x = some c → c ≠ P := fun x c ec z => by
    obtain ⟨v, oc, ho, hv⟩ := I.cell x c ec
    rw [z, e] at ho
    cases ho
    exact d v hv
  have J : Inv X pins σ H { s with heap := h', toks := t' } := (inv_unpin I).turned (it := P) k n ne (.inr big) nc np
  refine J.pins_of fun p hp => ?_
  rcases List.mem_cons.mp hp with q | q
  · rw [q]
    exact ⟨hP, n, ne, nf, hd⟩
  · exact J.pin p (List.mem_append_right _ q)
end
/-- the list of the texts so far -/
abbrev parts (acc : Array Value) (c : Nat) : Obj := { cls := .type "list", dict := none, data := .seq acc c, slots := #[] }
theorem rm_loop {X : Cx} {k d : Nat} {A : Around} (R : Rm X k (d + 1) A) (args : Args) : Rm X k d (A.under (.builtin "list.__repr__.loop" args)) := by
  have e1 : (A.under (.builtin "list.__repr__.loop" args)).depth = A.depth + 1 := by
    have z : (Code.builtin "list.__repr__.loop" args).isGuard = true := isGuard_list_loop args
    first | rfl | simp [Around.under, Code.weight, Code.isCreation, Code.isCaller, Code.frames, Code.isFrame, z]
  have e2 := units_under_list_loop A args
  refine ⟨R.hd, by have := R.dp; omega, by have := R.un; omega, ?_⟩
  first | exact R.fr | (simpa [Around.under, Code.envs, Code.isFrame, pushEnvs] using R.fr)
theorem list_loop {X : Cx} {k d : Nat} {H : Hp} {as : List Addr} {a P : Addr} {xs : List V} {ts : List Str} {base : Nat} {g : List Code} {A : Around} {R : Result → Shared → Prop} {σ : L2.St} {pins : List (Addr × Obj)}
    (e : H a = some (.lst xs)) (hl : ts.length = xs.length) (hT : ∀ (i : Nat) (x : V) (t : Str), xs[i]? = some x → ts[i]? = some t → RV X k H as d x t) (hg : A.guards = some g) (hc : ∀ b ∈ as, Clear g b) (na : a ∉ as) (rm : Rm X k (d + 1) A)
    (big : X.s_0.heap.objs.size ≤ P) (np : ∀ p ∈ X.pn ++ pins, p.1 ≠ P) (hsz : base + (listText ts).length ≤ sizeLine) :
    ∀ (n i : Nat) (s : Shared) (H1 : Hp) (acc : Array Value) (c : Nat) (done : List (Str × Tok)), xs.length - i = n → i ≤ xs.length → Same H H1 → Inv X ((P, parts acc c) :: pins) σ H1 s → acc.toList = strValues done → done.map (·.1) = ts.take i →
    (∀ H2 s' u, Same H1 H2 → Inv X pins σ H2 s' → R (.ok (.ret (.str (listText ts) u))) s') →
    codeAny (model X.prog X.w) A (.builtin "list.__repr__.loop" ⟨[.ref a, rawInt i, .ref P, rawInt ((base + piled (ts.take i) : Nat) : Int)], []⟩) R s := by
  have whole : (listText ts).length = (textFrom 0 "[" ts).length + 1 := by
    show (textFrom 0 "[" ts ++ "]").length = _
    rw [strLen_append]
    rfl
  have low := textFrom_len ts 0 "["
  have fits : ∀ t ∈ ts, t.length ≤ sizeLine := fun t ht => by
    have q := low.2.1 t ht
    omega
  have few : xs.length ≤ sizeLine := by
    have q := low.1
    rw [if_neg (Nat.lt_irrefl 0)] at q
    omega
  have pl := piled_le_listText ts
  intro n
  induction n with
  | zero =>
    intro i s H1 acc c done hn hi e1 I hacc hdone hR
    have hin : i = xs.length := by omega
    obtain ⟨_, its, m, rv, ho⟩ := (show ObjOk X.prog X.w H1 s.heap a (.lst xs) from I.hok a _ (e1 _ _ e))
    have hP := (I.pin (P, parts acc c) (List.mem_append_right _ List.mem_cons_self)).1
    refine codeAny_builtin F.entry_list_repr_loop ?_
    show wpAny _ _ (Builtin.«list.__repr__.loop» ⟨[.ref a, .int i 0, .ref P, .int ((base + piled (ts.take i) : Nat) : Int) 0], []⟩) _ _ s
    rw [repr_loop_tree]
    refine wpAny_bind (wpAny_listItems ho rfl ?_)
    have stop : its.toArray[(i : Int).toNat]? = none := by simp [hin, rv.length]
    simp only [stop]
    unfold reprEnd
    refine wpAny_bind (wpAny_listItems hP rfl ?_)
    rw [hacc, repr_fold]
    refine wpAny_bind (wpAny_pure ?_)
    have all : done.map (·.1) = ts := by rw [hdone, hin, ← hl, List.take_length]
    rw [all]
    refine wpAny_bind (wpAny_mkStr (wpAny_pure ?_) (by show (listText ts).length ≤ sizeLine; omega))
    exact hR H1 _ _ (Same.refl H1) ((inv_unpin I).tok _)
  | succ n ih =>
    intro i s H1 acc c done hn hi e1 I hacc hdone hR
    have hlt : i < xs.length := by omega
    have hlt2 : i < ts.length := by omega
    obtain ⟨_, its, m, rv, ho⟩ := (show ObjOk X.prog X.w H1 s.heap a (.lst xs) from I.hok a _ (e1 _ _ e))
    have hx : xs[i]? = some xs[i] := List.getElem?_eq_getElem hlt
    have ht : ts[i]? = some ts[i] := List.getElem?_eq_getElem hlt2
    obtain ⟨u, hu, ru⟩ := rv.get hx
    have p1 := piled_take_succ ht
    have p2 := piled_take_le ts (i + 1)
    refine codeAny_builtin F.entry_list_repr_loop ?_
    show wpAny _ _ (Builtin.«list.__repr__.loop» ⟨[.ref a, .int i 0, .ref P, .int ((base + piled (ts.take i) : Nat) : Int) 0], []⟩) _ _ s
    rw [repr_loop_tree]
    refine wpAny_bind (wpAny_listItems ho rfl ?_)
    have go : its.toArray[(i : Int).toNat]? = some u := by
      rw [Int.toNat_natCast]
      simpa using hu
    simp only [go]
    rw [Int.toNat_natCast]
    refine wpAny_bind (wpAny_holding (hT i _ _ hx ht H1 e1 u ru (base + piled (ts.take i) + 1) (by omega) σ _ _ _ _ s _ (guards_under_guard (isGuard_list_loop _) hg) (fun b hb => (hc b hb).cons (a := a) fun z => na (z ▸ hb)) (rm_loop rm _) I fun H2 s2 e2 I2 => ?_))
    refine wpAny_bind (wpAny_mkStr ?_ (fits _ (List.mem_of_getElem? ht)))
    refine wpAny_bind ?_
    show wpAny _ _ (updateSeq P _) _ _ _
    have small : acc.size ≤ sizeLine := by
      have z1 : acc.toList.length = acc.size := by simp
      have z2 : (strValues done).length = done.length := by simp [strValues]
      have z3 : done.length = (ts.take i).length := by rw [← hdone, List.length_map]
      have z4 : (ts.take i).length ≤ i := by
        rw [List.length_take]
        omega
      rw [hacc] at z1
      omega
    have I3 := I2.tok (s2.toks + 1)
    have hP := (I3.pin (P, parts acc c) (List.mem_append_right _ List.mem_cons_self)).1
    refine wpAny_updateSeq hP rfl (wpAny_pure ⟨F.quiet_list_repr_loop _, ?_⟩) small
    have j1 : ((i : Int) + 1) = ((i + 1 : Nat) : Int) := by omega
    have j2 : base + piled (ts.take i) + (ts[i].length + 2) = base + piled (ts.take (i + 1)) := by omega
    rw [j1, j2]
    refine ih (i + 1) _ H2 (acc.push (.str ts[i] s2.toks)) _ (done ++ [(ts[i], s2.toks)]) (by omega) hlt (e1.trans e2) (inv_repin I3 np big (fun v z => nomatch z) (Heap.get?_update_self _ hP rfl) fun b u hb q => (Heap.get?_update_other _ _ (fun z : P = b => hb z.symm)).trans q) (by simp [hacc, strValues]) (by rw [List.map_append, hdone, List.take_add_one, ht]; rfl) fun H3 s3 u3 e3 I4 => ?_
    exact hR H3 s3 u3 (e2.trans e3) I4
theorem list_at {X : Cx} {k d : Nat} {H H1 : Hp} {as : List Addr} {a : Addr} {x0 : V} {xs : List V} {ts : List Str} {base : Nat} {g : List Code} {A : Around} {R : Result → Shared → Prop} {σ : L2.St} {pins : List (Addr × Obj)} {s : Shared}
    (e : H a = some (.lst (x0 :: xs))) (hl : ts.length = (x0 :: xs).length) (hT : ∀ (i : Nat) (x : V) (t : Str), (x0 :: xs)[i]? = some x → ts[i]? = some t → RV X k H as d x t) (hg : A.guards = some g) (hc : ∀ b ∈ a :: as, Clear g b) (na : a ∉ as) (rm : Rm X k (d + 1) A)
    (hsz : base + (listText ts).length ≤ sizeLine) (e1 : Same H H1) (I : Inv X pins σ H1 s) (hR : ∀ H2 s' u, Same H1 H2 → Inv X pins σ H2 s' → R (.ok (.ret (.str (listText ts) u))) s') :
    wpAny (model X.prog X.w) A.in1 (Builtin.listReprAt base ⟨[.ref a], []⟩) (fun fin s' => match fin with | .done f => R (.ok f) s' | .again c' => c'.quiet = true ∧ codeAny (model X.prog X.w) A c' R s') (fun e s' => R (.error e) s') s := by
  have ca : Clear g a := hc a (.head _)
  obtain ⟨_, its, m, rv, ho⟩ := (show ObjOk X.prog X.w H1 s.heap a (.lst (x0 :: xs)) from I.hok a _ (e1 _ _ e))
  cases rv with
  | @cons _ u0 _ us r0 rr =>
    refine wpAny_list_repr_head (A := A.in1) hg (fun v rest kw hm => listSameRef_of_ne (ca _ _ _ _ hm)) ho rfl ?_
    refine wpAny_bind (m := newList []) (wpAny_newObj_type ?_)
    refine wpAny_pure ⟨F.quiet_list_repr_loop _, ?_⟩
    have I2 : Inv X ((s.heap.objs.size, parts #[] 0) :: pins) σ H1 { s with heap := s.heap.push (parts #[] 0) } := inv_pinNew I rfl (fun v z => nomatch z)
    refine list_loop (P := s.heap.objs.size) e hl hT hg (fun b hb => hc b (.tail _ hb)) na rm I.sz (fun p hp z => ?_) hsz _ 0 _ H1 #[] 0 [] rfl (Nat.zero_le _) e1 I2 rfl rfl hR
    have q := (I.pin p hp).1
    rw [z] at q
    exact absurd (Heap.lt_size q) (Nat.lt_irrefl _)
/-- a list whose items can be shown -/
theorem RV.list {X : Cx} {k d : Nat} {H : Hp} {as : List Addr} {a : Addr} {x0 : V} {xs : List V} {ts : List Str} (e : H a = some (.lst (x0 :: xs))) (hl : ts.length = (x0 :: xs).length)
    (hT : ∀ (i : Nat) (x : V) (t : Str), (x0 :: xs)[i]? = some x → ts[i]? = some t → RV X k H as d x t) (na : a ∉ as) : RV X k H (a :: as) (d + 1) (.ref a) (listText ts) := by
  intro H1 e1 u r base hb σ pins A g E s Q hg hc rm I q
  cases (show u = Value.ref a from r)
  obtain ⟨_, its, m, rv, ho⟩ := (show ObjOk X.prog X.w H1 s.heap a (.lst (x0 :: xs)) from I.hok a _ (e1 _ _ e))
  have ty : s.TypeIs (.ref a) "list" := ⟨_, ho, rfl⟩
  refine wpAny_pyReprUnder_ref (by omega) (wpAny_pyReprObjUnder_twin (twin := "list.__repr__.under") ty F.slot_list_repr.toG rfl (by have := rm.un; omega) ?_)
  refine call_twin_plain F.plain_list_repr_under F.entry_list_repr_under F.check_list_repr_under ty F.slot_list_repr.toG (F.args_list_repr_1 _) ?_
  exact list_at (R := callEnd (fun v s' => (∃ x u, v = .str x u) ∧ ∃ x u, v = .str x u ∧ Q x s') E) e hl hT hg hc na rm hb e1 I fun H2 s' u e2 J => ⟨⟨_, _, rfl⟩, _, _, rfl, q H2 s' e2 J⟩
/-- repr of a list, asked for by name -/
def rReprL (X : Cx) (k : Nat) : List V → Hp → VK → Prop := fun vs H Q => ∃ (a : Addr) (x0 : V) (xs : List V) (ts : List Str) (as : List Addr) (d : Nat), vs = [.ref a] ∧ H a = some (.lst (x0 :: xs)) ∧ ts.length = (x0 :: xs).length ∧ a ∉ as ∧ d ≤ 40 ∧ (listText ts).length ≤ sizeLine ∧
  (∀ (i : Nat) (x : V) (t : Str), (x0 :: xs)[i]? = some x → ts[i]? = some t → RV X k H as d x t) ∧ ∀ H2, Same H H2 → Q (.str (listText ts)) H2
theorem call_reprL {X : Cx} {k : Nat} (gd : X.A.guards = some []) (hr : Room (k + 40) X.A) : CallR X (.builtin "repr") (rReprL X k) := by
  intro pins s σ H xs us Q I r h
  obtain ⟨a, x0, xs, ts, as, d, rfl, e, hl, na, hd, hz, hT, q⟩ := h
  obtain ⟨u1, rfl, r1⟩ := vals1 r
  cases (show u1 = Value.ref a from r1)
  obtain ⟨_, its, m, rv, ho⟩ := (show ObjOk X.prog X.w H s.heap a (.lst (x0 :: xs)) from I.hok a _ e)
  have ty : s.TypeIs (.ref a) "list" := ⟨_, ho, rfl⟩
  have un := hr.un
  have dp := hr.dp
  refine call_repr_slot (by omega) ty F.slot_list_repr.toG ?_
  refine wpAny_call (codeAny_call_builtin F.slot_list_repr.plain F.entry_list_repr (F.slot_list_repr.check _ _ _ _ _ _ _ _ ty (F.args_list_repr_1 _) ?_))
  have rm : Rm X k (d + 1) X.A.in1 := ⟨hr.hd, by show X.A.depth + 3 * k + 5 + 2 * (d + 1) < _; omega, by show X.A.units + 1 + 16 * k + 200 + 2 * (d + 1) < _; omega, I.ok.frames⟩
  exact list_at (A := X.A.in1) (base := 0) (R := callEnd (fun r s1 => ∃ x t, r = .str x t ∧ EP X pins σ Q r s1) _) e hl hT gd (fun b _ => Clear.nil b) na rm (by omega) (Same.refl H) I
    fun H2 s' u e2 J => ⟨_, _, rfl, .str (listText ts), H2, J, ⟨u, rfl⟩, q H2 e2⟩
open PySem.W in
theorem byOwn {prog : Program} {w : World} {K : PySem.W.Frag} {A : Around} {E : Value → Shared → Prop} {s : Shared} {x C f : Addr} {ox : Obj} {od : Option Obj} {last : Value → List Value → Sem Value} {name : Str} {Q : Option Value → Shared → Prop}
    (X : K.In s.heap) (I : PySem.W.InstAt s.heap x ox C od) (hs : findIn K (.ref C) name = some (some (.ref f))) (hf : typeIn K (.ref f) = some (.type "function")) (h : wpAny (model prog w) A (last (.ref f) [.ref x]) (fun v => Q (some v)) E s) :
    wpAny (model prog w) A (callSpecialIfBoundBy? last (.ref x) name) Q E s := by
  simp only [callSpecialIfBoundBy?, bindSpecialIfBound?]
  refine wpAny_holding (wpAny_bind (wpAny_bind (wpAny_bind (I.type.here ((looks_findIn X hs).here ?_)))))
  refine wpAny_bind (wpAny_askSetting (wpAny_ite ?_))
  have fin : wpAny (model prog w) A (last (.ref f) [.ref x] >>= fun v => pure (some v)) Q E s := wpAny_bind (wpAny_mono h (fun v s' z => wpAny_pure z) fun _ _ z => z)
  split
  · exact wpAny_bind ((bind_fn X _ hf).here (wpAny_pure fin))
  · exact wpAny_tryCatch (wpAny_bind ((bind_fn X _ hf).here (wpAny_pure fin)))
/-- an own instance that shows itself by its __repr__ -/
theorem RV.inst {X : Cx} {k : Nat} {H : Hp} {a C dx f : Addr} {fs : List (Str × V)} {fd : FuncData} {ps : List Str} {sp : Sp} {t : Str} (e : H a = some (.ins C dx fs)) (hs : PySem.W.findIn X.K (.ref C) "__repr__" = some (some (.ref f))) (hf : PySem.W.typeIn X.K (.ref f) = some (.type "function"))
    (F : FnOk X.prog X.w X.K X.mg X.base CX0 k f fd ps sp) (hb : Binds X.K fd ps []) (h : ∀ H1, Same H H1 → ∀ (Q : VK) (E : XK), (∀ H2, Same H1 H2 → Q (.str t) H2) → sp [.ref a] H1 Q E) : RV X k H [] 0 (.ref a) t := by
  intro H1 e1 u r base hz σ pins A g E s Q hg hc rm I q
  cases (show u = Value.ref a from r)
  obtain ⟨mA, O, _⟩ := ins_get I.hok (e1 _ _ e)
  obtain ⟨od, J, _⟩ := O.look
  have kx := I.kIn
  refine wpAny_pyReprUnder_ref (by omega) ?_
  unfold pyReprObjUnder pyReprObjBy
  refine wpAny_bind (wpAny_cRoomFor (by have := rm.un; omega) ?_)
  refine wpAny_bind (wpAny_bind (J.type.here ((PySem.W.looks_findIn kx hs).here ?_)))
  show wpAny _ _ (if (some (Value.ref f)).isNone = true then _ else _) _ _ _
  rw [if_neg (by simp)]
  refine wpAny_bind (byOwn kx J hs hf ?_)
  show wpAny _ _ (call (.ref f) [.ref a]) _ _ _
  have h1 := h H1 e1 (fun v H2 => v = .str t ∧ Same H1 H2) (fun _ _ _ => False) fun H2 z => ⟨rfl, z⟩
  have hl : ([Value.ref a] ++ []).length = ps.length := by
    have z := F.len _ _ _ _ h1
    exact z
  have bd := hb s [.ref a] kx hl
  have env : Env0 X.prog X.w X.K X.mg X.base A X.stack s H1 := ⟨rm.fr, I.env0.mod, I.env0.bs, I.env0.bsz, I.env0.funs, I.env0.frf, I.env0.hok, I.env0.bare⟩
  refine wpAny_call (codeAny_mono (F.run A X.stack s H1 ⟨[.ref a], []⟩ [.ref a] [.ref a] _ _ ⟨rm.hd, by have := rm.dp; omega, by have := rm.un; omega⟩ env bd (.cons rfl .nil) h1) fun r s' hq => ?_)
  cases r with
  | error er => exact hq.elim
  | ok fl =>
    cases fl with
    | next => exact False.elim hq
    | brk => exact False.elim hq
    | cont => exact False.elim hq
    | ret v =>
      obtain ⟨y, H2, I2, rv, ev, e2⟩ := I.after hq
      subst ev
      obtain ⟨tk, z⟩ := (show ∃ tk, v = Value.str t tk from rv)
      subst z
      exact wpAny_bind (wpAny_isInstance (T := "str") (b := true) rfl isSubtype_str_str (wpAny_pure ⟨_, _, rfl, q H2 s' e2 I2⟩))
end My
set_option Elab.async false
set_option maxRecDepth 100000
set_option maxHeartbeats 4000000
namespace My
open PySem PySem.HandSPX Builtin Builtin.ObjectAttr
/-! own exceptions made by a call with keywords: BaseException.__new__ lets them pass -/
section
variable {M : Model} {A : Around} {E : Value → Shared → Prop} {h : Heap} {g : Array GenState} {d : Drawn} {t : Nat} {os : OsState}
variable {nm q : Str} {C N : Addr} {bs bm bmB : List Value} {hdct : Bool} {sn : List Str} {sub : List Value} {ab : Bool} {col : Option Bool} {dd : Option Addr} {k0 k1 k2 k3 k5 : Option Value} {B newId initId : String}
theorem newCheck (F : ExcBaseFacts B newId initId bmB) (hT : ∀ X : String, bm.contains (.type X) = bmB.contains (.type X)) {kw : List (Str × Value)} {Q : Unit → Shared → Prop}
    (hC : h.get? C = some (excClassObj nm q C N bs bm hdct sn sub ab col dd k0 k1 k2 k3 k5 newId)) (hq : Q () ⟨h, g, d, t, os⟩) : wpAny M A (checkBuiltinCall newId ⟨[.ref C], kw⟩) Q E ⟨h, g, d, t, os⟩ := by
  have own : (Value.ref C :: bm).contains (.type B) = true := by
    rw [List.contains_cons, hT, F.hasB]
    exact Bool.or_true _
  have st := F.noStar
  simp only [checkBuiltinCall, F.newKind, F.newSplit, F.newRow]
  repeat (first
    | refine wpAny_loadPart_at hC ?_
    | (refine wpAny_isSubtype_exc hC ?_; rw [own])
    | refine wpAny_staticBase_exc hC ?_
    | refine wpAny_madeBy_exc hC ?_
    | simp only [bne_self_eq_false, Bool.false_eq_true, if_false]
    | wp_step)
  exact hq
end
section
variable {prog : Program} {w : World} {A : Around} {E : Value → Shared → Prop} {R : Result → Shared → Prop} {h : Heap} {g : Array GenState} {d : Drawn} {t : Nat} {os : OsState}
variable {nm q : Str} {C N : Addr} {bs bm bmB : List Value} {hdct : Bool} {sn : List Str} {sub : List Value} {ab : Bool} {col : Option Bool} {dd : Option Addr} {k0 k1 k2 k3 k5 : Option Value} {B newId initId : String}
/-- the args of an exception that was made without arguments by place -/
abbrev noArgs : Obj := { cls := .type "tuple", data := .seq #[] }
theorem newMade (F : ExcBaseFacts B newId initId bmB) (hT : ∀ X : String, bm.contains (.type X) = bmB.contains (.type X)) {kw : List (Str × Value)}
    (hC : h.get? C = some (excClassObj nm q C N bs bm hdct sn sub ab col dd k0 k1 k2 k3 k5 newId))
    (hq : R (.ok (.ret (.ref (h.objs.size + 1)))) ⟨(h.push noArgs).push (excO C h.objs.size), g, d, t, os⟩) :
    codeAny (model prog w) A (.builtin newId ⟨[.ref C], kw⟩) R ⟨h, g, d, t, os⟩ := by
  have en := F.ends
  have c1 : (Value.ref C :: bm).contains (.type B) = true := by
    rw [List.contains_cons, hT, F.hasB]
    exact Bool.or_true _
  have c2 : (Value.ref C :: bm).contains (.type "AttributeError") = false := by
    rw [List.contains_cons, hT, F.noAttr]
    rfl
  have c3 : (Value.ref C :: bm).contains (.type "NameError") = false := by
    rw [List.contains_cons, hT, F.noName]
    rfl
  refine codeAny_builtinAt F.entry ?_
  unfold Builtin.«BaseException.__new__»
  refine wpAt_bind ?_
  show wpAt _ _ _ (stack >>= _) _ _ _
  refine wpAt_bind (wpAt_stack fun p below => wpAt_of_wpAny ?_)
  wp_walk
  refine wpAt_of_wpAny ?_
  rw [F.owner]
  repeat (first
    | with_reducible refine wpAny_madeHere_exc F.canon hC ?_
    | with_reducible refine wpAny_loadPart_at hC ?_
    | (with_reducible refine wpAny_isSubtype_exc hC ?_; first | rw [c1] | rw [c2] | rw [c3])
    | wp_step)
  show R _ _
  rw [Heap.size_push]
  exact hq
theorem typeCalled (F : ExcBaseFacts B newId initId bmB) (hT : ∀ X : String, bm.contains (.type X) = bmB.contains (.type X)) {kw : List (Str × Value)} {fI : Addr} {Q : Fin → Shared → Prop}
    (hC : h.get? C = some (excClassObj nm q C N bs bm hdct sn sub ab col dd k0 k1 k2 k3 k5 newId))
    (hi : W.Looks (model prog w) h (typeLookup (.ref C) "__init__") (some (.ref fI))) (hb : ∀ self, W.Looks (model prog w) h (bindSpecial (.ref fI) self) (.ref fI, [self]))
    (hq : codeAny (model prog w) A (.call (.ref fI) ⟨[.ref (h.objs.size + 1)], kw⟩)
      (fun r s' => match r with | .ok (.ret v) => v = .none ∧ Q (.done (.ret (.ref (h.objs.size + 1)))) s' | .ok _ => False | .error e => E e s')
      ⟨(h.push noArgs).push (excO C h.objs.size), g, d, t, os⟩) :
    wpAny (model prog w) A (Builtin.«type.__call__» ⟨[.ref C], kw⟩) Q E ⟨h, g, d, t, os⟩ := by
  repeat (first | with_reducible refine wpAny_loadPart_at hC ?_ | with_reducible refine wpAny_madeBy_exc hC ?_ | wp_step)
  refine codeAny_call_builtin_code (Code.quiet_builtin _ F.quiet) (newCheck F hT hC ?_)
  refine newMade F hT hC ?_
  show wpAny _ _ _ _ _ _
  have k : ∀ b o, h.get? b = some o → ((h.push noArgs).push (excO C h.objs.size)).get? b = some o := fun b o e => Heap.get?_push_of_some _ (Heap.get?_push_of_some _ e)
  have hC1 := k _ _ hC
  have there : ((h.push noArgs).push (excO C h.objs.size)).get? (h.objs.size + 1) = some (excO C h.objs.size) := by heap_get
  have cC : (Value.ref C :: bm).contains (.ref C) = true := by simp
  have i1 := hi.keeps k
  have b1 := (hb (.ref (h.objs.size + 1))).keeps k
  unfold isInstance
  repeat (first | with_reducible refine wpAny_loadPart_at there ?_ | (with_reducible refine wpAny_isSubtype_exc hC1 ?_; rw [cC]) | wp_step)
  show wpAny _ _ (typeLookup (.ref C) _) _ _ _
  refine i1.at ?_
  refine wpAny_holding (wpAny_bind (b1.at ?_))
  refine wpAny_bind (wpAny_call (codeAny_mono hq fun r s' z => ?_))
  rcases r with e | (v | _ | _ | _) <;> first | exact z | exact z.elim | skip
  obtain ⟨rfl, z⟩ := z
  first
    | exact wpAny_pure (wpAny_pure z)
    | (wp_walk; exact z)
theorem calledKw (F : ExcBaseFacts B newId initId bmB) (hT : ∀ X : String, bm.contains (.type X) = bmB.contains (.type X)) {kw : List (Str × Value)} {fI : Addr}
    (hC : h.get? C = some (excClassObj nm q C N bs bm hdct sn sub ab col dd k0 k1 k2 k3 k5 newId))
    (hi : W.Looks (model prog w) h (typeLookup (.ref C) "__init__") (some (.ref fI))) (hb : ∀ self, W.Looks (model prog w) h (bindSpecial (.ref fI) self) (.ref fI, [self]))
    (hq : codeAny (model prog w) (A.under (.builtin "type.__call__" ⟨[.ref C], kw⟩)) (.call (.ref fI) ⟨[.ref (h.objs.size + 1)], kw⟩) (W.InitBack (h.objs.size + 1) R) ⟨(h.push noArgs).push (excO C h.objs.size), g, d, t, os⟩) :
    codeAny (model prog w) A (.call (.ref C) ⟨[], kw⟩) R ⟨h, g, d, t, os⟩ := by
  have f1 := tc_lookup
  have f2 := tc_bind (.ref C)
  have ty : (⟨h, g, d, t, os⟩ : Shared).TypeIs (.ref C) "type" := ⟨_, hC, rfl⟩
  refine codeAny_of_tree ?_
  show wpAny _ _ (callAny (.ref C) _) _ _ _
  repeat (any_goals (first | assumption | with_reducible refine wpAny_loadPart_at hC ?_ | wp_step))
  refine ⟨rfl, ?_⟩
  refine codeAny_call_builtin_at (Code.quiet_builtin _ (by decide +kernel)) entry_typeCall (wpAny_check_type_call_sub hC (typeCalled F hT hC hi hb ?_))
  refine codeAny_mono hq fun r s' z => ?_
  rcases r with e | (v | _ | _ | _) <;> exact z
end
end My
set_option Elab.async false
set_option maxRecDepth 100000
set_option maxHeartbeats 4000000
namespace My
open PySem PySem.HandSPX Builtin Builtin.ObjectAttr
section
variable {prog : Program} {w : World} {A : Around} {E : Value → Shared → Prop} {R : Result → Shared → Prop} {hp : Heap} {g : Array GenState} {d : Drawn} {t : Nat} {os : OsState}
/-- what a built-in exception class has to let pass, for own classes over it -/
structure Tail (bmB : List Value) : Prop where
  pass : ∀ self : Value, refuseLoop self "__setattr__" bmB = pure ()
  obj : bmB.contains (.type "object") = true
  ne : bmB ≠ []
theorem tailNe {bmB l : List Value} (T : Tail bmB) (e : W.excTail bmB l = true) : l.isEmpty = false := by
  cases l with
  | nil => exact absurd (beq_iff_eq.mp e).symm T.ne
  | cons _ _ => rfl
/-- the first field of an exception -/
theorem xosaNew {bmB : List Value} (T : Tail bmB) {K : W.Frag} {name : Str} {tk : Tok} {v : Value} {x C : Addr} {fv : Array Value} {cd : ClassData}
    (X : K.In hp) (hx : hp.get? x = some { cls := .ref C, data := .fields fv }) (hcd : W.clsIn K C = some cd) (hm : W.excTail bmB cd.mro = true) (hh : cd.hasDict = true) (ha : W.findIn K (.ref C) name = some none)
    (hq : ∀ h' tk' dx, (∀ b o, b ≠ x → hp.get? b = some o → h'.get? b = some o) → hp.objs.size ≤ dx → dx ≠ x → h'.get? x = some { cls := .ref C, dict := some dx, data := .fields fv } →
      h'.Ns1 dx (fun y => if y = name then some v else none) → R (.ok (.ret .none)) ⟨h', g, d, tk', os⟩) :
    codeAny (model prog w) A (.call (.builtin "object.__setattr__") ⟨[.ref x, .str name tk, v], []⟩) R ⟨hp, g, d, t, os⟩ := by
  have at_ : W.InstAt hp x { cls := .ref C, data := .fields fv } C none := ⟨hx, rfl, rfl, trivial⟩
  have st := F.store_object
  have ne := tailNe T hm
  have isOb : cd.mro.contains (.type "object") = true := (W.excTail_contains "object" _ hm).trans T.obj
  have xs : x ≠ hp.objs.size := Nat.ne_of_lt (Heap.lt_size hx)
  have sub : W.Looks (model prog w) hp (isInstance (.ref x) (.type "object")) true := at_.type.andThen (W.looks_mroIn X (by
    unfold W.mroIn
    rw [hcd, Option.bind_some, if_neg (by rw [ne]; decide), isOb]))
  refine codeAny_call_builtin st.slot.plain st.entry (@W.check_slot (model prog w) _ _ ⟨hp, g, d, t, os⟩ "object.__setattr__" "object" "__setattr__" (.ref x) [.str name tk, v] [] _ st.kind st.split sub
    (st.args (.ref x) (.str name tk) v) ?_)
  have mr : W.Looks (model prog w) hp (mroOf (.ref C)) cd.mro := (W.looks_clsIn X hcd).andThen .now
  have l3 : W.Looks (model prog w) hp (storeTaker? none) none := .now
  have lc : W.Looks (model prog w) hp (classData C) cd := W.looks_clsIn X hcd
  rw [W.osa_eq, refuse_eq]
  refine wpAny_bind (wpAny_bind (at_.type.at (wpAny_bind (mr.at ?_))))
  rw [W.excTail_pass _ (T.pass _) _ hm]
  refine wpAny_pure (wpAny_bind (at_.type.at (wpAny_bind ((W.looks_findIn X ha).at (wpAny_bind (l3.at ?_))))))
  show wpAny _ _ (storeInOwnDict (.ref x) (.ref C) (.str name tk) name v false) _ _ _
  obtain ⟨nm, bs, mro, ns, qn, hd, sn, sb, ab, col, dl⟩ := cd
  dsimp only at hh
  subst hh
  unfold storeInOwnDict ownDictForStores
  repeat (first | with_reducible refine store_in_new ?_ ?_ | with_reducible refine wpAny_loadPart_at hx ?_ | with_reducible refine lc.at ?_ | wp_step)
  · exact ⟨_, #[], _, (Heap.get?_update_ne _ _ _ _ xs.symm).trans (Heap.get?_push_at rfl rfl), rfl, fun e he => absurd he (by simp), fun _ => rfl⟩
  · intro h' tk' hn' hs
    have x1 : (hp.push { cls := .type "dict", data := .dict #[] }).get? x = some { cls := .ref C, data := .fields fv } := Heap.get?_push_of_some _ hx
    refine hq h' tk' hp.objs.size (fun b o hb ho => ?_) (Nat.le_refl _) xs.symm ?_ hn'
    · exact (hs.2 b (Nat.ne_of_lt (Heap.lt_size ho))).trans ((Heap.get?_update_ne _ _ _ _ hb).trans (Heap.get?_push_of_some _ ho))
    · exact (hs.2 x xs).trans (Heap.get?_update_self _ x1 rfl)
/-- a further field -/
theorem xosaOld {bmB : List Value} (T : Tail bmB) {K : W.Frag} {name : Str} {tk : Tok} {v : Value} {x C dx : Addr} {fv : Array Value} {cd : ClassData} {m0 : Str → Option Value} {nl : List Str}
    (X : K.In hp) (hx : hp.get? x = some { cls := .ref C, dict := some dx, data := .fields fv }) (hns : hp.Ns1 dx m0) (hw : Within m0 nl) (hz : nl.length ≤ 1000) (hcd : W.clsIn K C = some cd) (hm : W.excTail bmB cd.mro = true) (hh : cd.hasDict = true)
    (ha : W.findIn K (.ref C) name = some none)
    (hq : ∀ h' tk', (∀ b o, b ≠ dx → hp.get? b = some o → h'.get? b = some o) → h'.Ns1 dx (fun y => if y = name then some v else m0 y) → R (.ok (.ret .none)) ⟨h', g, d, tk', os⟩) :
    codeAny (model prog w) A (.call (.builtin "object.__setattr__") ⟨[.ref x, .str name tk, v], []⟩) R ⟨hp, g, d, t, os⟩ := by
  obtain ⟨oD, esD, epD, hoD, hdD, _⟩ := hns.count hw
  have at_ : W.InstAt hp x { cls := .ref C, dict := some dx, data := .fields fv } C (some oD) := ⟨hx, rfl, rfl, hoD⟩
  have st := F.store_object
  have ne := tailNe T hm
  have isOb : cd.mro.contains (.type "object") = true := (W.excTail_contains "object" _ hm).trans T.obj
  have sub : W.Looks (model prog w) hp (isInstance (.ref x) (.type "object")) true := at_.type.andThen (W.looks_mroIn X (by
    unfold W.mroIn
    rw [hcd, Option.bind_some, if_neg (by rw [ne]; decide), isOb]))
  refine codeAny_call_builtin st.slot.plain st.entry (@W.check_slot (model prog w) _ _ ⟨hp, g, d, t, os⟩ "object.__setattr__" "object" "__setattr__" (.ref x) [.str name tk, v] [] _ st.kind st.split sub
    (st.args (.ref x) (.str name tk) v) ?_)
  have mr : W.Looks (model prog w) hp (mroOf (.ref C)) cd.mro := (W.looks_clsIn X hcd).andThen .now
  have l3 : W.Looks (model prog w) hp (storeTaker? none) none := .now
  have lc : W.Looks (model prog w) hp (classData C) cd := W.looks_clsIn X hcd
  rw [W.osa_eq, refuse_eq]
  refine wpAny_bind (wpAny_bind (at_.type.at (wpAny_bind (mr.at ?_))))
  rw [W.excTail_pass _ (T.pass _) _ hm]
  refine wpAny_pure (wpAny_bind (at_.type.at (wpAny_bind ((W.looks_findIn X ha).at (wpAny_bind (l3.at ?_))))))
  show wpAny _ _ (storeInOwnDict (.ref x) (.ref C) (.str name tk) name v false) _ _ _
  obtain ⟨nm, bs, mro, ns, qn, hd, sn, sb, ab, col, dl⟩ := cd
  dsimp only at hh
  subst hh
  unfold storeInOwnDict ownDictForStores
  repeat (first | with_reducible refine OEX.store_in_old hns hw hz ?_ | with_reducible refine wpAny_loadPart_at hx ?_ | with_reducible refine lc.at ?_ | wp_step)
  intro h' tk' hn' hs
  exact hq h' tk' (fun b o hb ho => (hs.2 b hb).trans ho) hn'
end
theorem tailV : Tail [.type "ValueError", .type "Exception", .type "BaseException", .type "object"] := ⟨F.store_ValueError.passes, by decide +kernel, by decide⟩
theorem tailL : Tail [.type "LookupError", .type "Exception", .type "BaseException", .type "object"] := ⟨F.store_LookupError.passes, by decide +kernel, by decide⟩
theorem tailA : Tail [.type "ArithmeticError", .type "Exception", .type "BaseException", .type "object"] := ⟨F.store_ArithmeticError.passes, by decide +kernel, by decide⟩
end My
set_option Elab.async false
set_option maxRecDepth 100000
set_option maxHeartbeats 4000000
namespace My
open PySem PySem.Spec PyProof.Rows L2
/-- what the written part says of an own exception class over a built-in one -/
structure OxC (K : PySem.W.Frag) (C : Addr) (newId : String) (bmB : List Value) : Prop where
  made : PySem.W.excInitIn K C bmB newId = true
  over : PySem.W.excOver K C bmB = true
  hd : PySem.W.hasDictIn K C = true
  sa : PySem.W.findIn K (.ref C) "__setattr__" = some (some (.builtin "object.__setattr__"))
  ga : PySem.W.findIn K (.ref C) "__getattribute__" = some (some (.builtin "BaseException.__getattribute__"))
  gg : PySem.W.findIn K (.ref C) "__getattr__" = some none
  exC : PySem.W.subIn K (.ref C) (.type "BaseException") = some true
  tyC : PySem.W.typeIn K (.ref C) = some (.type "type")
  kp : PySem.W.keepIn K (.ref C) = true
theorem OxC.cls {K : PySem.W.Frag} {C : Addr} {newId : String} {bmB : List Value} (O : OxC K C newId bmB) : ∃ cd, PySem.W.clsIn K C = some cd ∧ cd.hasDict = true ∧ PySem.W.excTail bmB cd.mro = true := by
  obtain ⟨cd, hc, hd⟩ := PySem.W.any_some O.hd
  obtain ⟨cd', hc', ho⟩ := PySem.W.any_some O.over
  obtain rfl : cd = cd' := Option.some.inj (hc.symm.trans hc')
  refine ⟨cd, hc, hd, ?_⟩
  (try dsimp only at ho)
  split at ho
  · rename_i C' bm hm
    rw [hm]
    exact (Bool.and_eq_true_iff.mp ho).2
  · cases ho
section
variable {X : Cx} {pins : List (Addr × Obj)} {σ : L2.St} {H : Hp} {s : Shared} {a C dx : Addr} {f : Str} {y : V} {u : Value} {fs : List (Str × V)} {E : Value → Shared → Prop} {A : Around} {newId : String} {bmB : List Value}
/-- self.f = y, the first one -/
theorem xst_new {Q : Unit → Shared → Prop} (T : Tail bmB) (O : OxC X.K C newId bmB) (I : Inv X pins σ H s) (e : H a = some (exo a C none)) (hno : PySem.W.findIn X.K (.ref C) f = some none) (ry : RelV y u)
    (h : ∀ dx s', H dx = none → dx ≠ a → Inv X pins σ (upd (upd H dx (exd dx [(f, y)])) a (exo a C (some dx))) s' → Q () s') : wpAny (model X.prog X.w) A (setAttr (.ref a) f u) Q E s := by
  obtain ⟨cd, hcl, hdc, htl⟩ := O.cls
  obtain ⟨t1, ho⟩ := exo_at I.hok e
  obtain ⟨hp, g, d, t, os⟩ := s
  refine PySem.W.set_plain I.kIn (ox := { cls := .ref C, dict := none, data := .fields #[.ref t1, .none, .none, .none, .bool false, .none] }) (od := none) ⟨ho, rfl, rfl, trivial⟩ O.sa ?_
  refine xosaNew T I.kIn ho hcl htl hdc hno (fun h' tk' dx k dn dne hx hn => ?_)
  have hnd : H dx = none := I.hok.fresh dn
  have nd : ∀ {b : Addr} {o : Obj}, hp.get? b = some o → b ≠ dx := fun {b o} q => Nat.ne_of_lt (Nat.lt_of_lt_of_le (Heap.lt_size q) dn)
  have na : ∀ {b : Addr}, H b = none → b ≠ a := fun {b} n z => by
    rw [z, e] at n
    cases n
  have un : Un X.fs [] H (upd (upd H dx (exd dx [(f, y)])) a (exo a C (some dx))) hp h' :=
    ⟨fun b o q n _ _ => k b o (na n) q, fun b o q n _ _ => ⟨o.slots, k b o (na n) q⟩, fun b o q n _ => by rw [upd_ne (na n), upd_ne (nd q)]; exact n, fun b o q _ => by
      by_cases hb : b = a
      · exact ⟨_, by rw [hb]; exact hx⟩
      · exact ⟨o, k b o hb q⟩, fun b xs q => by rw [upd_ne (at_ne e q exo_tup), upd_ne (ne_of_none q hnd)]; exact q, fun b o v q => by rw [upd_ne (at_ne e q exo_frz), upd_ne (ne_of_none q hnd)]; exact q,
      fun b ps q => ⟨#[], by rw [upd_ne (at_ne e q exo_tbl), upd_ne (ne_of_none q hnd), q]; simp⟩⟩
  refine h dx _ hnd dne (I.un (t' := tk') un fun b o q => ?_)
  by_cases hb : b = a
  · subst hb
    rw [upd_same] at q
    cases q
    exact exo_ok hx
  · rw [upd_ne hb] at q
    by_cases hd : b = dx
    · subst hd
      rw [upd_same] at q
      cases q
      exact exd_ok hn (relO_put (fs := []) ry fun g => True.intro)
    · rw [upd_ne hd] at q
      refine (I.hok b o q).stay (fun c v hc z => k c v ?_ z) (fun c hc => ?_) fun c xs hc => ?_
      · rcases hc with hc | hc
        · rw [hc]
          exact hb
        · exact at_ne e hc exo_own
      · rw [upd_ne (at_ne e hc exo_own), upd_ne (ne_of_none hc hnd)]
        exact hc
      · rw [upd_ne (at_ne e hc exo_tup), upd_ne (ne_of_none hc hnd)]
        exact hc
/-- self.f = y, a further one -/
theorem xst_old {Q : Unit → Shared → Prop} (T : Tail bmB) (O : OxC X.K C newId bmB) (I : Inv X pins σ H s) (e : H a = some (exo a C (some dx))) (ed : H dx = some (exd dx fs)) (hl : fs.length ≤ 900) (hno : PySem.W.findIn X.K (.ref C) f = some none) (ry : RelV y u)
    (h : ∀ s', Inv X pins σ (upd H dx (exd dx ((f, y) :: fs))) s' → Q () s') : wpAny (model X.prog X.w) A (setAttr (.ref a) f u) Q E s := by
  obtain ⟨cd, hcl, hdc, htl⟩ := O.cls
  obtain ⟨t1, ho⟩ := exo_at I.hok e
  obtain ⟨mA, hns, rel⟩ := exd_at I.hok ed
  have hw := within_of rel
  obtain ⟨hp, g, d, t, os⟩ := s
  obtain ⟨oD, _, _, hoD, _, _⟩ := hns.count hw
  refine PySem.W.set_plain I.kIn (ox := { cls := .ref C, dict := some dx, data := .fields #[.ref t1, .none, .none, .none, .bool false, .none] }) (od := some oD) ⟨ho, rfl, rfl, hoD⟩ O.sa ?_
  refine xosaOld T I.kIn ho hns hw (by rw [List.length_map]; omega) hcl htl hdc hno (fun h' tk' k hn => ?_)
  have hd : ∃ o, h'.get? dx = some o := by
    obtain ⟨o, _, _, e', _⟩ := hn
    exact ⟨o, e'⟩
  exact h _ (I.write (t' := tk') (x := dx) (e := dx) (o := exd dx ((f, y) :: fs)) (by rw [ed]; exact True.intro) (.inl rfl) k hd (exd_ok hn (relO_put ry rel)))
end
/-- self.f = e in the __init__ of an exception -/
def tXst (K : PySem.W.Frag) (f : Str) (to te : TE) : TS := fun D σ H => te σ H fun y H1 => to σ H1 fun x H2 => ∃ (a C : Addr) (newId : String) (bmB : List Value), x = .ref a ∧ Tail bmB ∧ OxC K C newId bmB ∧ PySem.W.findIn K (.ref C) f = some none ∧
  ((H2 a = some (exo a C none) ∧ ∀ dx, H2 dx = none → dx ≠ a → D.nx σ (upd (upd H2 dx (exd dx [(f, y)])) a (exo a C (some dx)))) ∨
    ∃ (dx : Addr) (fs : List (Str × V)), H2 a = some (exo a C (some dx)) ∧ H2 dx = some (exd dx fs) ∧ fs.length ≤ 900 ∧ D.nx σ (upd H2 dx (exd dx ((f, y) :: fs))))
/-- C(e, ..), C's own __init__ keeping sp -/
def tXmk (C : Addr) (sp : Sp) (ta : TA) : TE := fun σ H Q => ta σ H fun vs H1 => vs.length ≤ 1000 ∧ ∀ a, H1 a = none → sp (.ref a :: vs) (upd H1 a (exo a C none)) (fun v H2 => v = .non ∧ Q (.ref a) H2) (fun _ _ _ => False)
/-- C(k = e, ..) -/
def tXmkK (C : Addr) (m : Nat) (sp : Sp) (gV : List V → List V → List V) (tk : TA) : TE := fun σ H Q => tk σ H fun zs H1 => zs.length = m ∧ ∀ a, H1 a = none → sp (gV [.ref a] zs) (upd H1 a (exo a C none)) (fun v H2 => v = .non ∧ Q (.ref a) H2) (fun _ _ _ => False)
/-- C(), no own __init__ -/
def tXmk0 (C : Addr) : TE := fun _ H Q => ∀ a, H a = none → Q (.ref a) (upd H a (exo a C none))
/-- e.f of an exception -/
def tXat (K : PySem.W.Frag) (f : Str) (te : TE) : TE := fun σ H Q => te σ H fun x H1 => ∃ (a C d : Addr) (fs : List (Str × V)) (v : V) (newId : String) (bmB : List Value), x = .ref a ∧ OxC K C newId bmB ∧ PySem.W.findIn K (.ref C) f = some none ∧
  H1 a = some (exo a C (some d)) ∧ H1 d = some (exd d fs) ∧ fs.lookup f = some v ∧ Q v H1
section
variable {X : Cx} {o e : Expr} {es : List Expr} {to te : TE} {ta : TA} {f : Str} {p p' p1 p2 pos : Pos}
theorem ps_xst (ho : PE X o to) (he : PE X e te) (hs : swapsWith e (some (.Attribute o f p')) pos.line X.env = pure false := by rfl) : PS X (.Assign [.Attribute o f p'] e pos) (tXst X.K f to te) := by
  refine ⟨fun pins s σ H D I h => ?_⟩
  refine plainObj_wpAny_Assign_Attribute (thn (he.run pins s σ H _ I h) fun v s1 ⟨y, H1, I1, r1, q1⟩ => thn (ho.run pins s1 σ H1 _ I1 q1) fun u s2 ⟨x, H2, I2, r2, a, C, newId, bmB, ex, T, O, hno, q⟩ => ?_) hs
  subst ex
  obtain rfl : u = Value.ref a := r2
  rcases q with ⟨ea, q⟩ | ⟨dx, fs, ea, ed, hl, q⟩
  · exact xst_new T O I2 ea hno r1 fun dx s' n ne J => ⟨σ, _, J, q dx n ne⟩
  · exact xst_old T O I2 ea ed hl hno r1 fun s' J => ⟨σ, _, J, q⟩
theorem pe_xat (he : PE X e te) (hb : attributeBase e f X.env (eval e X.env) = eval e X.env := by rfl) : PE X (.Attribute e f pos) (tXat X.K f te) := by
  refine ⟨fun pins s σ H Q I h => ?_⟩
  refine attr_of hb (thn (he.run pins s σ H _ I h) fun u s1 hh => ?_)
  obtain ⟨x, H1, I1, rx, a, C, d, fs, v, newId, bmB, ex, O, hno, ea, ed, l, q⟩ := hh
  subst ex
  obtain rfl : u = Value.ref a := rx
  obtain ⟨t1, ho⟩ := exo_at I1.hok ea
  obtain ⟨mA, hns, hr⟩ := exd_at I1.hok ed
  obtain ⟨od, hod, hl⟩ := lookIn_ns hns
  obtain ⟨u, hu, ru⟩ := RelO.some_of (v := v) (o := mA f) (by rw [← l]; exact hr f)
  have J : PySem.W.InstAt s1.heap a { cls := .ref C, dict := some d, data := .fields #[.ref t1, .none, .none, .none, .bool false, .none] } C (some od) := ⟨ho, rfl, rfl, hod⟩
  exact HandSPX.exc_get I1.kIn J O.ga O.gg O.exC (PySem.W.findObj_own O.hd hno rfl (by rw [hl, hu])) (handed_of ru) ⟨v, H1, I1.tok _, ru, q⟩
section
variable {CX : CXT} {x : Str} {C fI : Addr} {k : Nat} {fd : FuncData} {ps ks : List Str} {sp : Sp} {B newId initId : String} {bmB : List Value} {kws : List Keyword} {tk : TA} {g : List Value → List Value → List Value} {gV : List V → List V → List V}
/-- the exception is made, then its __init__ runs -/
theorem run_xmk {pins : List (Addr × Obj)} {σ : L2.St} {H : Hp} {s : Shared} {Q : VK} {us : List Value} {vs : List V} (F : ExcBaseFacts B newId initId bmB) (O : OxC X.K C newId bmB) (iC : PySem.W.findIn X.K (.ref C) "__init__" = some (some (.ref fI))) (tI : PySem.W.typeIn X.K (.ref fI) = some (.type "function"))
    (F1 : FnOk X.prog X.w X.K X.mg X.base CX k fI fd ps sp) (hr : Room (k + 1) X.A) (hb : Binds X.K fd ps []) (hx : Passes CX X (fun _ _ _ => False)) (I : Inv X pins σ H s) (r : Vals vs us) (hz : vs.length ≤ 1000)
    (h : ∀ a, H a = none → sp (.ref a :: vs) (upd H a (exo a C none)) (fun v H2 => v = .non ∧ Q (.ref a) H2) (fun _ _ _ => False)) : wpAny (model X.prog X.w) X.A (call (.ref C) us) (EP X pins σ Q) X.xe s := by
  obtain ⟨nm, N, qn, bs, bm, hdct, sn, sub, ab, col, dd, k0, k1, k2, k3, k5, hC, hT⟩ := PySem.W.excInit_of I.kIn O.made
  obtain ⟨hp, gg, dr, t0, os⟩ := s
  have big : hp.objs.size ≤ hp.objs.size + 1 := Nat.le_succ _
  have hq := h (hp.objs.size + 1) (I.hok.fresh big)
  have kk : ∀ b o, hp.get? b = some o → ((hp.push (PySem.W.kdv_tup us)).push (PySem.HandSPX.excO C hp.objs.size)).get? b = some o := fun b o e => Heap.get?_push_of_some _ (Heap.get?_push_of_some _ e)
  have hget : ((hp.push (PySem.W.kdv_tup us)).push (PySem.HandSPX.excO C hp.objs.size)).get? (hp.objs.size + 1) = some (PySem.HandSPX.excO C hp.objs.size) := by heap_get
  have I2 : Inv X pins σ (upd H (hp.objs.size + 1) (exo (hp.objs.size + 1) C none)) ⟨(hp.push (PySem.W.kdv_tup us)).push (PySem.HandSPX.excO C hp.objs.size), gg, dr, t0, os⟩ :=
    I.laid (t' := t0) (a := hp.objs.size + 1) (o := exo (hp.objs.size + 1) C none) (h' := (hp.push (PySem.W.kdv_tup us)).push (PySem.HandSPX.excO C hp.objs.size)) kk big (exo_ok hget)
  have r2 : Vals (V.ref (hp.objs.size + 1) :: vs) (Value.ref (hp.objs.size + 1) :: us) := .cons rfl r
  have hl : (Value.ref (hp.objs.size + 1) :: us ++ []).length = ps.length := by
    rw [List.append_nil, ← r2.length]
    exact F1.len _ _ _ _ hq
  have hus : us.length ≤ sizeLine := by
    rw [← Paired.length r, sizeLine_eq]
    omega
  have bd := hb _ (Value.ref (hp.objs.size + 1) :: us) I2.kIn hl
  rw [List.append_nil] at bd
  refine wpAny_call (PySem.HandSPX.call_own F hT hC (PySem.W.looks_findIn I.kIn iC) (fun self => PySem.W.bind_fn I.kIn self tI) hus
    (codeAny_mono (F1.run _ X.stack _ _ ⟨Value.ref (hp.objs.size + 1) :: us, []⟩ (Value.ref (hp.objs.size + 1) :: us) _ _ (fun _ _ _ => False) (hr.make C us []) (I2.env0.make C us []) bd r2 hq) fun r s' hq' => ?_))
  cases r with
  | error er => exact hx pins σ _ _ er s' I2 hq'
  | ok fl =>
    cases fl with
    | ret u =>
      obtain ⟨v, H', I3, rv, ev, q3⟩ := I2.after hq'
      subst ev
      refine ⟨rv, ⟨V.ref (hp.objs.size + 1), H', ?_, rfl, q3⟩⟩
      exact ⟨I3.ok, I3.os, I3.bare, I3.base, I3.loc, I3.cell, I3.free, I3.freeC, I3.pin, I3.hok, I3.len⟩
    | next => exact False.elim hq'
    | brk => exact False.elim hq'
    | cont => exact False.elim hq'
theorem pe_xmk (F : ExcBaseFacts B newId initId bmB) (O : OxC X.K C newId bmB) (iC : PySem.W.findIn X.K (.ref C) "__init__" = some (some (.ref fI))) (tI : PySem.W.typeIn X.K (.ref fI) = some (.type "function"))
    (F1 : FnOk X.prog X.w X.K X.mg X.base CX k fI fd ps sp) (hr : Room (k + 1) X.A) (hb : Binds X.K fd ps []) (hx : Passes CX X (fun _ _ _ => False)) (hg : Gl X x) (hm : X.mg x = some (.ref C)) (ha : PA X (e :: es) ta)
    (hdb : (x == ("__debug__" : Str)) = false := by decide) (he : starEach (e :: es) X.env = (false, eval e X.env) :: starEach es X.env := by rfl) (hpl : (backTo pos (starEach es X.env)).any (·.1) = false := by rfl) :
    PE X (.Call (.Name x p) (e :: es) [] pos) (tXmk C sp ta) := by
  refine ⟨fun pins s σ H Q I h => ?_⟩
  refine wpAny_Call_Name_kw (ld_glob I hg hm ?_ hdb)
  refine PySem.W.callWith_K (h₀ := X.base) I.ok.mod.kin O.kp (thn (ha.run pos pins s σ H _ I h) fun us s1 ⟨vs, H1, I1, r1, hz, q1⟩ => ⟨I1.kIn, ?_⟩) he hpl
  exact run_xmk F O iC tI F1 hr hb hx I1 r1 hz q1
end
end
end My
set_option Elab.async false
set_option maxRecDepth 100000
set_option maxHeartbeats 4000000
namespace My
open PySem PySem.Spec PyProof.Rows L2
section
variable {X : Cx} {CX : CXT} {x : Str} {C fI : Addr} {k : Nat} {fd : FuncData} {ps ks : List Str} {sp : Sp} {B newId initId : String} {bmB : List Value} {kws : List Keyword} {tk : TA} {g : List Value → List Value → List Value} {gV : List V → List V → List V} {p pos : Pos}
theorem run_xmkK {pins : List (Addr × Obj)} {σ : L2.St} {H : Hp} {s : Shared} {Q : VK} {ws : List Value} {zs : List V} (F : ExcBaseFacts B newId initId bmB) (O : OxC X.K C newId bmB) (iC : PySem.W.findIn X.K (.ref C) "__init__" = some (some (.ref fI))) (tI : PySem.W.typeIn X.K (.ref fI) = some (.type "function"))
    (F1 : FnOk X.prog X.w X.K X.mg X.base CX k fI fd ps sp) (hr : Room (k + 1) X.A) (hb : KBn X.K fd ps 1 ks g gV) (hx : Passes CX X (fun _ _ _ => False)) (I : Inv X pins σ H s) (rz : Vals zs ws) (hl : zs.length = ks.length)
    (h : ∀ a, H a = none → sp (gV [.ref a] zs) (upd H a (exo a C none)) (fun v H2 => v = .non ∧ Q (.ref a) H2) (fun _ _ _ => False)) : wpAny (model X.prog X.w) X.A (call (.ref C) [] (ks.zip ws)) (EP X pins σ Q) X.xe s := by
  obtain ⟨nm, N, qn, bs, bm, hdct, sn, sub, ab, col, dd, k0, k1, k2, k3, k5, hC, hT⟩ := PySem.W.excInit_of I.kIn O.made
  obtain ⟨hp, gg, dr, t0, os⟩ := s
  have big : hp.objs.size ≤ hp.objs.size + 1 := Nat.le_succ _
  have hq := h (hp.objs.size + 1) (I.hok.fresh big)
  have kk : ∀ b o, hp.get? b = some o → ((hp.push noArgs).push (PySem.HandSPX.excO C hp.objs.size)).get? b = some o := fun b o e => Heap.get?_push_of_some _ (Heap.get?_push_of_some _ e)
  have hget : ((hp.push noArgs).push (PySem.HandSPX.excO C hp.objs.size)).get? (hp.objs.size + 1) = some (PySem.HandSPX.excO C hp.objs.size) := by heap_get
  have I2 : Inv X pins σ (upd H (hp.objs.size + 1) (exo (hp.objs.size + 1) C none)) ⟨(hp.push noArgs).push (PySem.HandSPX.excO C hp.objs.size), gg, dr, t0, os⟩ :=
    I.laid (t' := t0) (a := hp.objs.size + 1) (o := exo (hp.objs.size + 1) C none) (h' := (hp.push noArgs).push (PySem.HandSPX.excO C hp.objs.size)) kk big (exo_ok hget)
  have r1 : Vals [V.ref (hp.objs.size + 1)] [Value.ref (hp.objs.size + 1)] := .cons rfl .nil
  have r2 := hb.rel r1 rz
  have e2 : ws.length = ks.length := rz.length.symm.trans hl
  refine wpAny_call (calledKw F hT hC (PySem.W.looks_findIn I.kIn iC) (fun self => PySem.W.bind_fn I.kIn self tI)
    (codeAny_mono (F1.run _ X.stack _ _ ⟨[Value.ref (hp.objs.size + 1)], ks.zip ws⟩ (g [Value.ref (hp.objs.size + 1)] ws) _ _ (fun _ _ _ => False) (hr.make C [] (ks.zip ws)) (I2.env0.make C [] (ks.zip ws)) (hb.to _ [Value.ref (hp.objs.size + 1)] ws I2.kIn rfl e2) r2 hq) fun r s' hq' => ?_))
  cases r with
  | error er => exact hx pins σ _ _ er s' I2 hq'
  | ok fl =>
    cases fl with
    | ret u =>
      obtain ⟨v, H', I3, rv, ev, q3⟩ := I2.after hq'
      subst ev
      refine ⟨rv, ⟨V.ref (hp.objs.size + 1), H', ?_, rfl, q3⟩⟩
      exact ⟨I3.ok, I3.os, I3.bare, I3.base, I3.loc, I3.cell, I3.free, I3.freeC, I3.pin, I3.hok, I3.len⟩
    | next => exact False.elim hq'
    | brk => exact False.elim hq'
    | cont => exact False.elim hq'
theorem pe_xmkK (F : ExcBaseFacts B newId initId bmB) (O : OxC X.K C newId bmB) (iC : PySem.W.findIn X.K (.ref C) "__init__" = some (some (.ref fI))) (tI : PySem.W.typeIn X.K (.ref fI) = some (.type "function"))
    (F1 : FnOk X.prog X.w X.K X.mg X.base CX k fI fd ps sp) (hr : Room (k + 1) X.A) (hb : KBn X.K fd ps 1 ks g gV) (hx : Passes CX X (fun _ _ _ => False)) (hg : Gl X x) (hm : X.mg x = some (.ref C)) (hkw : PK X kws tk)
    (hall : (backToKw pos (keywordEach kws X.env)).all (·.1.isSome) = true := by rfl) (hks : (backToKw pos (keywordEach kws X.env)).filterMap (·.1) = ks := by rfl) (hdb : (x == ("__debug__" : Str)) = false := by decide)
    (hpl : ((backTo pos (starEach [] X.env)).any (·.1) || (backToKw pos (keywordEach kws X.env)).any (·.1.isNone)) = false := by rfl) :
    PE X (.Call (.Name x p) [] kws pos) (tXmkK C ks.length sp gV tk) := by
  refine ⟨fun pins s σ H Q I h => ?_⟩
  refine wpAny_Call_Name_kw (ld_glob I hg hm ?_ hdb)
  refine PySem.W.callWith_KW0 (h₀ := X.base) I.ok.mod.kin O.kp hall ?_ hpl
  refine thn (hkw.run pos pins s σ H _ I h) fun ws s2 ⟨zs, H2, I2, rz, l2, q2⟩ => ⟨I2.kIn, ?_⟩
  rw [hks]
  exact run_xmkK F O iC tI F1 hr hb hx I2 rz l2 q2
/-- C(), no own __init__ -/
theorem pe_xmk0 (F : ExcBaseFacts B newId initId bmB) (q : PySem.W.excIn X.K C bmB newId = true) (kC : PySem.W.keepIn X.K (.ref C) = true) (hg : Gl X x) (hm : X.mg x = some (.ref C)) (hdb : (x == ("__debug__" : Str)) = false := by decide) : PE X (.Call (.Name x p) [] [] pos) (tXmk0 C) := by
  refine ⟨fun pins s σ H Q I h => ?_⟩
  refine wpAny_Call_Name_kw (ld_glob I hg hm ?_ hdb)
  refine PySem.W.callWith_K0 I.kIn kC ?_
  obtain ⟨bm, N, nm, qn, bs, hdct, sn, sub, ab, col, dd, k0, k1, k2, k3, k5, mN, hC, hN, hni, T⟩ := exc_obj I.kIn q
  refine wpAny_call_exc_subT F T hC hN hni (fun h' a hh => ?_) (by show 0 ≤ sizeLine; exact Nat.zero_le _)
  have hn : H a = none := I.hok.gone hh.new
  obtain ⟨t, ht, _, _⟩ := hh.there
  exact ⟨.ref a, upd H a (exo a C none), I.laidN hh.keeps hh.new hn (exo_ok ht), rfl, h a hn⟩
end
/-! ### isinstance of an exception -/
section
variable {prog : Program} {w : World} {A : Around} {E : Value → Shared → Prop} {K : PySem.W.Frag} {C : Addr} {newId : String} {bmB : List Value}
/-- what isinstance asks besides: the class attribute -/
structure OxI (K : PySem.W.Frag) (C : Addr) : Prop where
  ca : PySem.W.findIn K (.ref C) "__class__" = some (some (.builtin "object.__class__"))
  mo : PySem.W.mroIn K C (.type "object") = some true
structure OxG (K : PySem.W.Frag) : Prop where
  gt : PySem.W.specialIn K (.builtin "object.__class__") "__get__" = some (some (.builtin "getset_descriptor.__get__"))
  tk : PySem.W.takesIn K (.builtin "object.__class__") = some true
open PySem.W in
theorem findData {od : Option Obj} {name : Str} {a g : Value} (hc : (clsIn K C).isSome = true) (ha : findIn K (.ref C) name = some (some a)) (hg : specialIn K a "__get__" = some (some g)) (ht : takesIn K a = some true) : findObj K C od name = some (.bind g a) := by
  obtain ⟨cd, hc⟩ := Option.isSome_iff_exists.mp hc
  unfold findObj
  rw [hc, Option.bind_some, ha, Option.bind_some]
  simp [hg, ht]
open PySem.W in
theorem askClass {s : Shared} {x : Addr} {ox : Obj} {od : Option Obj} {Q : Option Value → Shared → Prop} (O : OxC K C newId bmB) (J : OxI K C) (G : OxG K) (X : K.In s.heap) (I : PySem.W.InstAt s.heap x ox C od) (h : Q (some (.ref C)) { s with toks := s.toks + 1 }) :
    wpAny (model prog w) A (getAttr? (.ref x) "__class__") Q E s := by
  have hf : findObj K C od "__class__" = some (.bind (.builtin "getset_descriptor.__get__") (.builtin "object.__class__")) := findData (by
    obtain ⟨cd, hc, _⟩ := any_some O.hd
    rw [hc]
    rfl) J.ca G.gt G.tk
  obtain ⟨hp, g, d, t, os⟩ := s
  have l0 := I.type (M := model prog w)
  have l1 := looks_findIn (M := model prog w) X O.ga
  have l2 := looks_findIn (M := model prog w) X O.gg
  have l3 := looks_find (M := model prog w) X I hf
  have sub : Looks (model prog w) hp (isInstance (.ref x) (.type "BaseException")) true := l0.andThen (looks_subIn X O.exC)
  have n0 : (false && onTheHeap (Value.builtin "BaseException.__getattribute__")) = false := rfl
  have n2 : (Value.builtin "BaseException.__getattribute__" == Value.builtin "object.__getattribute__") = false := by decide +kernel
  have n1 : (onTheHeap (Value.ref C) && Value.builtin "BaseException.__getattribute__" == Value.builtin "object.__getattribute__") = false := by
    rw [n2]
    rfl
  unfold getAttr? getAttrBy? getAttrBy
  refine wpAny_bind (wpAny_mkText (wpAny_bind (wpAny_attempt (wpAny_holding (wpAny_bind (l0.at (wpAny_bind (l1.at ?_))))))))
  show wpAny _ _ (if (onTheHeap (Value.ref C) && Value.builtin "BaseException.__getattribute__" == Value.builtin "object.__getattribute__") = true then _ else _) _ _ _
  rw [n1, if_neg Bool.false_ne_true]
  unfold getAttrByItsOwn hookBefore
  refine wpAny_bind ?_
  rw [if_pos (show onTheHeap (Value.ref C) = true from rfl)]
  refine l2.at ?_
  refine wpAny_bind (wpAny_attempt (wpAny_holding ?_))
  unfold callGetattribute
  rw [n0, if_neg Bool.false_ne_true]
  unfold boundAndCalled
  rw [PySem.F.excAttr_ValueError.ga.bind (.ref x)]
  refine wpAny_bind (wpAny_pure ?_)
  show wpAny _ _ (call (.builtin "BaseException.__getattribute__") [.ref x, .str "__class__" t]) _ _ _
  refine wpAny_call (codeAny_call_builtin PySem.F.excAttr_ValueError.ga.plain PySem.F.entry_bexc_ga ?_)
  refine @check_slot (model prog w) _ _ ⟨hp, g, d, t + 1, os⟩ "BaseException.__getattribute__" "BaseException" "__getattribute__" (.ref x) [.str "__class__" t] [] _ (by decide +kernel) (by decide +kernel) sub
    (PySem.F.args_bexc_ga (.ref x) (.str "__class__" t)) ?_
  unfold Builtin.«object.__getattribute__»
  refine wpAny_bind (wpAny_of_eq (a := ((Value.ref x : Value), [Value.str "__class__" t])) (by first | rfl | (simp only [slotArgs]; rfl)) ?_)
  refine wpAny_bind (wpAny_pure (wpAny_bind (l0.at (wpAny_bind (l3.at ?_)))))
  show wpAny _ _ (holding [Value.builtin "object.__class__"] (call (.builtin "getset_descriptor.__get__") [.builtin "object.__class__", .ref x, .ref C]) >>= ret) _ _ _
  refine wpAny_bind (wpAny_holding (wpAny_call (class_get (s := ⟨hp, g, d, t + 1, os⟩) (ox := ox) (od := od) X I J.mo ?_)))
  refine wpAny_pure ?_
  show wpAny _ _ (handedOut (.ref C)) _ _ _
  rw [handedOut_of (v := .ref C) rfl]
  first
    | exact wpAny_pure (wpAny_pure h)
    | exact wpAny_pure h
    | exact wpAny_pure (wpAny_bind (wpAny_pure (wpAny_pure h)))
open PySem.W in
theorem kitExc {x : Addr} {ox : Obj} {od : Option Obj} (O : OxC K C newId bmB) (J : OxI K C) (G : OxG K) : KitX K (.ref x) (.ref C) (fun h => PySem.W.InstAt h x ox C od) := by
  obtain ⟨cd, hc, _⟩ := O.cls
  unfold clsIn at hc
  split at hc
  · rename_i c' d' cd' sl' ho
    refine ⟨fun _ _ _ I => I.type, fun _ _ X _ => ?_, fun h tp dd its n sl X htp => ?_, fun X I k => askClass O J G X I k⟩
    · intro A' Q' E' s' k q
      unfold isType loadHead
      exact wpAny_bind (wpAny_loadPart (k _ _ (X _ _ ho)) (wpAny_pure q))
    · refine Bool.eq_false_iff.mpr fun q => ?_
      obtain rfl : C = tp := Value.ref.inj (beq_iff_eq.mp q)
      have z := (X _ _ ho).symm.trans htp
      cases z
  · cases hc
end
/-- isinstance(e, c) of an exception e that is not raised -/
def rIsX (K : PySem.W.Frag) : List V → Hp → VK → Prop := fun xs H Q => ∃ (a C : Addr) (d : Option Addr) (newId : String) (bmB : List Value) (c : V) (u : Value) (b : Bool), xs = [.ref a, c] ∧ OxC K C newId bmB ∧ OxI K C ∧ OxG K ∧ ClsV c u ∧ H a = some (exo a C d) ∧
  (d = none ∨ ∃ dx fs, d = some dx ∧ H dx = some (exd dx fs)) ∧ PySem.W.kitOne K (.ref C) u = some b ∧ Q (.bl b) H
theorem call_isX {X : Cx} : CallR X (.builtin "isinstance") (rIsX X.K) := by
  intro pins s σ H xs us Q I r h
  obtain ⟨a, C, d, newId, bmB, c, u, b, rfl, O, J, G, k, ea, ed, e, q⟩ := h
  obtain ⟨u1, u2, rfl, r1, r2⟩ := vals2 r
  obtain rfl : u1 = Value.ref a := r1
  obtain rfl := k.eq r2
  obtain ⟨t1, ho⟩ := exo_at I.hok ea
  have fin : ∀ od : Option Obj, PySem.W.InstAt s.heap a { cls := .ref C, dict := d, data := .fields #[.ref t1, .none, .none, .none, .bool false, .none] } C od → wpAny (model X.prog X.w) X.A (call (.builtin "isinstance") [.ref a, u2]) (EP X pins σ Q) X.xe s := fun od J' =>
    PySem.W.kia_one (kitExc O J G) I.kIn J' e (fun z => nomatch z) fun tk => ⟨.bl b, H, I.tok tk, rfl, q⟩
  rcases ed with rfl | ⟨dx, fs, rfl, hd⟩
  · exact fin none ⟨ho, rfl, rfl, trivial⟩
  · obtain ⟨mA, hns, _⟩ := exd_at I.hok hd
    obtain ⟨od, hod, _⟩ := lookIn_ns hns
    exact fin (some od) ⟨ho, rfl, rfl, hod⟩
end My
set_option Elab.async false
set_option maxRecDepth 100000
set_option maxHeartbeats 4000000
namespace My
open PySem PySem.Spec PyProof.Rows L2
/-- what the __init__ of an exception with one field promises -/
def spI1 (C : Addr) (f : Str) : Sp := fun vs H Q _ => ∃ (a : Addr) (v : V), vs = [.ref a, v] ∧ H a = some (exo a C none) ∧ ∀ dx, H dx = none → dx ≠ a → Q .non (upd (upd H dx (exd dx [(f, v)])) a (exo a C (some dx)))
/-- .. with three, stored in this order -/
def spI3 (C : Addr) (f g h : Str) : Sp := fun vs H Q _ => ∃ (a : Addr) (x y z : V), vs = [.ref a, x, y, z] ∧ H a = some (exo a C none) ∧ ∀ dx, H dx = none → dx ≠ a →
  Q .non (upd (upd (upd (upd H dx (exd dx [(f, x)])) a (exo a C (some dx))) dx (exd dx [(g, y), (f, x)])) dx (exd dx [(h, z), (g, y), (f, x)]))
theorem upd3 {H : Hp} {a d : Addr} {o1 o2 o3 : HO} (h : d ≠ a) : upd (upd (upd H a o1) d o2) a o3 = upd (upd H d o2) a o3 := by
  funext b
  by_cases hb : b = a
  · rw [hb, upd_same, upd_same]
  · rw [upd_ne hb, upd_ne hb]
    by_cases hd : b = d
    · rw [hd, upd_same, upd_same]
    · rw [upd_ne hd, upd_ne hd, upd_ne hb]
theorem none_of {H : Hp} {a d : Addr} {o : HO} (h : upd H a o d = none) : H d = none ∧ d ≠ a := by
  have ne : d ≠ a := fun z => by
    rw [z, upd_same] at h
    cases h
  rw [upd_ne ne] at h
  exact ⟨h, ne⟩
/-- what is known of an exception class with an own __init__ -/
structure XCls (P : Program) (w : World) (K : PySem.W.Frag) (mg : Str → Option Value) (base : Heap) (x : Str) (C fI : Addr) (B newId initId : String) (bmB : List Value) (ps : List Str) (sp : Sp) (fd : FuncData) : Prop where
  F : ExcBaseFacts B newId initId bmB
  T : Tail bmB
  O : OxC K C newId bmB
  J : OxI K C
  iC : PySem.W.findIn K (.ref C) "__init__" = some (some (.ref fI))
  tI : PySem.W.typeIn K (.ref fI) = some (.type "function")
  ok : FnOk P w K mg base CX0 1 fI fd ps sp
  bd : Binds K fd ps []
  mx : mg x = some (.ref C)
theorem kbOf {K : PySem.W.Frag} {x qual : Str} {st : Stmt} {f : Addr} {fd : FuncData} {ps ks : List Str} {n : Nat} {g : List Value → List Value → List Value} {gV : List V → List V → List V} (F : Fun K x qual st f fd)
    (h : ∀ (kV doc pm : Value) (an : Option Addr) (cdv ct : Value) (us ws : List Value), us.length = n → ws.length = ks.length → bindArgs (PySem.W.fnOf x qual (defArgs st) (defBody st) (defScope st) .none kV doc pm an cdv ct) ⟨us, ks.zip ws⟩ = pure (ps.zip (g us ws)))
    (rel : ∀ {vs : List V} {us : List Value} {zs : List V} {ws : List Value}, Vals vs us → Vals zs ws → Vals (gV vs zs) (g us ws)) : KBn K fd ps n ks g gV := by
  obtain ⟨oc, od, kV, doc, pm, an, cdv, ct, osl, rfl, lk, hcd⟩ := F.ex
  exact ⟨fun s us ws _ l1 l2 => .of_eq (h kV doc pm an cdv ct us ws l1 l2), rel⟩
section
variable {X : Cx} {x : Str} {C fI : Addr} {B newId initId : String} {bmB : List Value} {ps ks : List Str} {fd : FuncData} {e : Expr} {es : List Expr} {ta tk : TA} {p pos : Pos} {kws : List Keyword} {sp : Sp} {g : List Value → List Value → List Value} {gV : List V → List V → List V}
theorem pX (T : XCls X.prog X.w X.K X.mg X.base x C fI B newId initId bmB ps sp fd) (hr : Room 2 X.A) (ha : PA X (e :: es) ta) (hg : Gl X x := by rfl) (hdb : (x == ("__debug__" : Str)) = false := by decide) (hs : starEach (e :: es) X.env = (false, eval e X.env) :: starEach es X.env := by rfl)
    (hpl : (backTo pos (starEach es X.env)).any (·.1) = false := by rfl) : PE X (.Call (.Name x p) (e :: es) [] pos) (tXmk C sp ta) :=
  pe_xmk T.F T.O T.iC T.tI T.ok hr T.bd pass0 hg T.mx ha hdb hs hpl
theorem pXk (T : XCls X.prog X.w X.K X.mg X.base x C fI B newId initId bmB ps sp fd) (kb : KBn X.K fd ps 1 ks g gV) (hr : Room 2 X.A) (hk : PK X kws tk) (hg : Gl X x := by rfl) (hdb : (x == ("__debug__" : Str)) = false := by decide)
    (hall : (backToKw pos (keywordEach kws X.env)).all (·.1.isSome) = true := by rfl) (hks : (backToKw pos (keywordEach kws X.env)).filterMap (·.1) = ks := by rfl)
    (hpl : ((backTo pos (starEach [] X.env)).any (·.1) || (backToKw pos (keywordEach kws X.env)).any (·.1.isNone)) = false := by rfl) : PE X (.Call (.Name x p) [] kws pos) (tXmkK C ks.length sp gV tk) :=
  pe_xmkK T.F T.O T.iC T.tI T.ok hr kb pass0 hg T.mx hk hall hks hdb hpl
end
section
variable {H0 H : Hp} {O : List Addr} {L : List (Addr × HO)} {Q : VK} {C : Addr} {f g h : Str} {v x y z : V} {σ : L2.St} {ta tk : TA} {sp : Sp} {gV : List V → List V → List V} {m : Nat} {E : XK}
/-- an exception is made by its __init__; then Q -/
def XNew (C : Addr) (sp : Sp) (vs : List V) (H : Hp) (Q : VK) : Prop := vs.length ≤ 1000 ∧ ∀ a, H a = none → sp (.ref a :: vs) (upd H a (exo a C none)) (fun v H2 => v = .non ∧ Q (.ref a) H2) (fun _ _ _ => False)
def XNewK (C : Addr) (m : Nat) (sp : Sp) (gV : List V → List V → List V) (zs : List V) (H : Hp) (Q : VK) : Prop := zs.length = m ∧ ∀ a, H a = none → sp (gV [.ref a] zs) (upd H a (exo a C none)) (fun v H2 => v = .non ∧ Q (.ref a) H2) (fun _ _ _ => False)
theorem g_xmk (q : ta σ H fun vs H1 => XNew C sp vs H1 Q) : tXmk C sp ta σ H Q := q
theorem g_xmkK (q : tk σ H fun zs H1 => XNewK C m sp gV zs H1 Q) : tXmkK C m sp gV tk σ H Q := q
theorem g_xmk0 (hs : Hs H0 H O L) (q : ∀ a H1, Hs H0 H1 O ((a, exo a C none) :: L) → Q (.ref a) H1) : tXmk0 C σ H Q := fun a ha => q a _ (hs.new ha)
theorem i1_ok (hs : Hs H0 H O L) (q : ∀ a d H1, Hs H0 H1 O ((a, exo a C (some d)) :: (d, exd d [(f, v)]) :: L) → Q (.ref a) H1) : ∀ a, H a = none → spI1 C f [.ref a, v] (upd H a (exo a C none)) (fun y H2 => y = .non ∧ Q (.ref a) H2) E := by
  intro a ha
  refine ⟨a, v, rfl, upd_same, fun dx hd ne => ⟨rfl, ?_⟩⟩
  obtain ⟨hd', _⟩ := none_of hd
  rw [upd3 ne]
  exact q a dx _ ((hs.new hd').new (by rw [upd_ne (fun z => ne z.symm)]; exact ha))
theorem g_x1 (hs : Hs H0 H O L) (q : ∀ a d H1, Hs H0 H1 O ((a, exo a C (some d)) :: (d, exd d [(f, v)]) :: L) → Q (.ref a) H1) : XNew C (spI1 C f) [v] H Q :=
  ⟨(by show 1 ≤ 1000; omega), i1_ok hs q⟩
theorem g_x1k (hs : Hs H0 H O L) (q : ∀ a d H1, Hs H0 H1 O ((a, exo a C (some d)) :: (d, exd d [(f, v)]) :: L) → Q (.ref a) H1) : XNewK C [f].length (spI1 C f) (fun vs zs => vs ++ zs) [v] H Q :=
  ⟨rfl, i1_ok hs q⟩
theorem i3_ok (hs : Hs H0 H O L) (q : ∀ a d H1, Hs H0 H1 O ((a, exo a C (some d)) :: (d, exd d [(h, z), (g, y), (f, x)]) :: L) → Q (.ref a) H1) : ∀ a, H a = none → spI3 C f g h [.ref a, x, y, z] (upd H a (exo a C none)) (fun y H2 => y = .non ∧ Q (.ref a) H2) E := by
  intro a ha
  refine ⟨a, x, y, z, rfl, upd_same, fun dx hd ne => ⟨rfl, ?_⟩⟩
  obtain ⟨hd', _⟩ := none_of hd
  rw [upd3 ne]
  have n1 : upd H dx (exd dx [(f, x)]) a = none := by
    rw [upd_ne (fun z => ne z.symm)]
    exact ha
  have h1 := (hs.new (o := exd dx [(f, x)]) hd').new (o := exo a C (some dx)) n1
  have h2 := h1.put (o' := exd dx [(g, y), (f, x)]) 1 rfl
  exact q a dx _ (h2.put (o' := exd dx [(h, z), (g, y), (f, x)]) 1 rfl)
theorem g_x3 (hs : Hs H0 H O L) (q : ∀ a d H1, Hs H0 H1 O ((a, exo a C (some d)) :: (d, exd d [(h, z), (g, y), (f, x)]) :: L) → Q (.ref a) H1) : XNew C (spI3 C f g h) [x, y, z] H Q :=
  ⟨(by show 3 ≤ 1000; omega), i3_ok hs q⟩
end
end My
set_option Elab.async false
set_option maxRecDepth 100000
set_option maxHeartbeats 4000000
namespace My
open PySem PySem.Spec PyProof.Rows L2
abbrev sI4 : Stmt := inClass (top 4) 0
theorem scI4 : FnScope ["self", "value"] ["self", "value"] (defScope sI4) := ⟨rfl, rfl, rfl, by decide +kernel, rfl, by decide +kernel, by decide +kernel⟩
theorem okI4 {P : Program} {w : World} {K : PySem.W.Frag} {mg : Str → Option Value} {base : Heap} {f C : Addr} {fd : FuncData} {newId : String} {bmB : List Value} (F : Fun K "__init__" "NotALoad.__init__" sI4 f fd) (T : Tail bmB) (O : OxC K C newId bmB)
    (no : PySem.W.findIn K (.ref C) "value" = some none) : FnOk P w K mg base CX0 1 f fd ["self", "value"] (spI1 C "value") := by
  refine F.ok scI4 (fun vs H Q E h => ?_) (fun cdv A outer s H vs Q E hr h => ?_)
  · obtain ⟨a, v, rfl, _⟩ := h
    rfl
  · obtain ⟨a, v, rfl, ha, k⟩ := h
    exact ⟨_, pss_one (ps_xst (pv 0) (pv 1)), v, rfl, .ref a, rfl, a, C, newId, bmB, rfl, T, O, no, .inl ⟨ha, k⟩⟩
theorem kbI4 {K : PySem.W.Frag} {f : Addr} {fd : FuncData} (F : Fun K "__init__" "NotALoad.__init__" sI4 f fd) : KBn K fd ["self", "value"] 1 ["value"] (fun us ws => us ++ ws) (fun vs zs => vs ++ zs) :=
  kbOf F (fun _ _ _ _ _ _ us ws h1 h2 => match us, ws, h1, h2 with | [_], [_], _, _ => rfl) fun r1 r2 => r1.append r2
theorem bdI4 {K : PySem.W.Frag} {f : Addr} {fd : FuncData} (F : Fun K "__init__" "NotALoad.__init__" sI4 f fd) : Binds K fd ["self", "value"] [] := F.binds fun _ _ _ _ _ _ us hl => match us, hl with | [_, _], _ => rfl
abbrev sI5 : Stmt := inClass (top 5) 0
theorem scI5 : FnScope ["self", "value"] ["self", "value"] (defScope sI5) := ⟨rfl, rfl, rfl, by decide +kernel, rfl, by decide +kernel, by decide +kernel⟩
theorem okI5 {P : Program} {w : World} {K : PySem.W.Frag} {mg : Str → Option Value} {base : Heap} {f C : Addr} {fd : FuncData} {newId : String} {bmB : List Value} (F : Fun K "__init__" "NotAHandler.__init__" sI5 f fd) (T : Tail bmB) (O : OxC K C newId bmB)
    (no : PySem.W.findIn K (.ref C) "value" = some none) : FnOk P w K mg base CX0 1 f fd ["self", "value"] (spI1 C "value") := by
  refine F.ok scI5 (fun vs H Q E h => ?_) (fun cdv A outer s H vs Q E hr h => ?_)
  · obtain ⟨a, v, rfl, _⟩ := h
    rfl
  · obtain ⟨a, v, rfl, ha, k⟩ := h
    exact ⟨_, pss_one (ps_xst (pv 0) (pv 1)), v, rfl, .ref a, rfl, a, C, newId, bmB, rfl, T, O, no, .inl ⟨ha, k⟩⟩
theorem kbI5 {K : PySem.W.Frag} {f : Addr} {fd : FuncData} (F : Fun K "__init__" "NotAHandler.__init__" sI5 f fd) : KBn K fd ["self", "value"] 1 ["value"] (fun us ws => us ++ ws) (fun vs zs => vs ++ zs) :=
  kbOf F (fun _ _ _ _ _ _ us ws h1 h2 => match us, ws, h1, h2 with | [_], [_], _, _ => rfl) fun r1 r2 => r1.append r2
theorem bdI5 {K : PySem.W.Frag} {f : Addr} {fd : FuncData} (F : Fun K "__init__" "NotAHandler.__init__" sI5 f fd) : Binds K fd ["self", "value"] [] := F.binds fun _ _ _ _ _ _ us hl => match us, hl with | [_, _], _ => rfl
abbrev sI6 : Stmt := inClass (top 6) 0
theorem scI6 : FnScope ["self", "value"] ["self", "value"] (defScope sI6) := ⟨rfl, rfl, rfl, by decide +kernel, rfl, by decide +kernel, by decide +kernel⟩
theorem okI6 {P : Program} {w : World} {K : PySem.W.Frag} {mg : Str → Option Value} {base : Heap} {f C : Addr} {fd : FuncData} {newId : String} {bmB : List Value} (F : Fun K "__init__" "NotAWeb.__init__" sI6 f fd) (T : Tail bmB) (O : OxC K C newId bmB)
    (no : PySem.W.findIn K (.ref C) "value" = some none) : FnOk P w K mg base CX0 1 f fd ["self", "value"] (spI1 C "value") := by
  refine F.ok scI6 (fun vs H Q E h => ?_) (fun cdv A outer s H vs Q E hr h => ?_)
  · obtain ⟨a, v, rfl, _⟩ := h
    rfl
  · obtain ⟨a, v, rfl, ha, k⟩ := h
    exact ⟨_, pss_one (ps_xst (pv 0) (pv 1)), v, rfl, .ref a, rfl, a, C, newId, bmB, rfl, T, O, no, .inl ⟨ha, k⟩⟩
theorem kbI6 {K : PySem.W.Frag} {f : Addr} {fd : FuncData} (F : Fun K "__init__" "NotAWeb.__init__" sI6 f fd) : KBn K fd ["self", "value"] 1 ["value"] (fun us ws => us ++ ws) (fun vs zs => vs ++ zs) :=
  kbOf F (fun _ _ _ _ _ _ us ws h1 h2 => match us, ws, h1, h2 with | [_], [_], _, _ => rfl) fun r1 r2 => r1.append r2
theorem bdI6 {K : PySem.W.Frag} {f : Addr} {fd : FuncData} (F : Fun K "__init__" "NotAWeb.__init__" sI6 f fd) : Binds K fd ["self", "value"] [] := F.binds fun _ _ _ _ _ _ us hl => match us, hl with | [_, _], _ => rfl
abbrev sI7 : Stmt := inClass (top 7) 0
theorem scI7 : FnScope ["self", "value"] ["self", "value"] (defScope sI7) := ⟨rfl, rfl, rfl, by decide +kernel, rfl, by decide +kernel, by decide +kernel⟩
theorem okI7 {P : Program} {w : World} {K : PySem.W.Frag} {mg : Str → Option Value} {base : Heap} {f C : Addr} {fd : FuncData} {newId : String} {bmB : List Value} (F : Fun K "__init__" "InvalidName.__init__" sI7 f fd) (T : Tail bmB) (O : OxC K C newId bmB)
    (no : PySem.W.findIn K (.ref C) "value" = some none) : FnOk P w K mg base CX0 1 f fd ["self", "value"] (spI1 C "value") := by
  refine F.ok scI7 (fun vs H Q E h => ?_) (fun cdv A outer s H vs Q E hr h => ?_)
  · obtain ⟨a, v, rfl, _⟩ := h
    rfl
  · obtain ⟨a, v, rfl, ha, k⟩ := h
    exact ⟨_, pss_one (ps_xst (pv 0) (pv 1)), v, rfl, .ref a, rfl, a, C, newId, bmB, rfl, T, O, no, .inl ⟨ha, k⟩⟩
theorem kbI7 {K : PySem.W.Frag} {f : Addr} {fd : FuncData} (F : Fun K "__init__" "InvalidName.__init__" sI7 f fd) : KBn K fd ["self", "value"] 1 ["value"] (fun us ws => us ++ ws) (fun vs zs => vs ++ zs) :=
  kbOf F (fun _ _ _ _ _ _ us ws h1 h2 => match us, ws, h1, h2 with | [_], [_], _, _ => rfl) fun r1 r2 => r1.append r2
theorem bdI7 {K : PySem.W.Frag} {f : Addr} {fd : FuncData} (F : Fun K "__init__" "InvalidName.__init__" sI7 f fd) : Binds K fd ["self", "value"] [] := F.binds fun _ _ _ _ _ _ us hl => match us, hl with | [_, _], _ => rfl
abbrev sI8 : Stmt := inClass (top 8) 0
theorem scI8 : FnScope ["self", "value"] ["self", "value"] (defScope sI8) := ⟨rfl, rfl, rfl, by decide +kernel, rfl, by decide +kernel, by decide +kernel⟩
theorem okI8 {P : Program} {w : World} {K : PySem.W.Frag} {mg : Str → Option Value} {base : Heap} {f C : Addr} {fd : FuncData} {newId : String} {bmB : List Value} (F : Fun K "__init__" "InvalidText.__init__" sI8 f fd) (T : Tail bmB) (O : OxC K C newId bmB)
    (no : PySem.W.findIn K (.ref C) "value" = some none) : FnOk P w K mg base CX0 1 f fd ["self", "value"] (spI1 C "value") := by
  refine F.ok scI8 (fun vs H Q E h => ?_) (fun cdv A outer s H vs Q E hr h => ?_)
  · obtain ⟨a, v, rfl, _⟩ := h
    rfl
  · obtain ⟨a, v, rfl, ha, k⟩ := h
    exact ⟨_, pss_one (ps_xst (pv 0) (pv 1)), v, rfl, .ref a, rfl, a, C, newId, bmB, rfl, T, O, no, .inl ⟨ha, k⟩⟩
theorem kbI8 {K : PySem.W.Frag} {f : Addr} {fd : FuncData} (F : Fun K "__init__" "InvalidText.__init__" sI8 f fd) : KBn K fd ["self", "value"] 1 ["value"] (fun us ws => us ++ ws) (fun vs zs => vs ++ zs) :=
  kbOf F (fun _ _ _ _ _ _ us ws h1 h2 => match us, ws, h1, h2 with | [_], [_], _, _ => rfl) fun r1 r2 => r1.append r2
theorem bdI8 {K : PySem.W.Frag} {f : Addr} {fd : FuncData} (F : Fun K "__init__" "InvalidText.__init__" sI8 f fd) : Binds K fd ["self", "value"] [] := F.binds fun _ _ _ _ _ _ us hl => match us, hl with | [_, _], _ => rfl
abbrev sI9 : Stmt := inClass (top 9) 0
theorem scI9 : FnScope ["self", "value"] ["self", "value"] (defScope sI9) := ⟨rfl, rfl, rfl, by decide +kernel, rfl, by decide +kernel, by decide +kernel⟩
theorem okI9 {P : Program} {w : World} {K : PySem.W.Frag} {mg : Str → Option Value} {base : Heap} {f C : Addr} {fd : FuncData} {newId : String} {bmB : List Value} (F : Fun K "__init__" "InvalidNumber.__init__" sI9 f fd) (T : Tail bmB) (O : OxC K C newId bmB)
    (no : PySem.W.findIn K (.ref C) "value" = some none) : FnOk P w K mg base CX0 1 f fd ["self", "value"] (spI1 C "value") := by
  refine F.ok scI9 (fun vs H Q E h => ?_) (fun cdv A outer s H vs Q E hr h => ?_)
  · obtain ⟨a, v, rfl, _⟩ := h
    rfl
  · obtain ⟨a, v, rfl, ha, k⟩ := h
    exact ⟨_, pss_one (ps_xst (pv 0) (pv 1)), v, rfl, .ref a, rfl, a, C, newId, bmB, rfl, T, O, no, .inl ⟨ha, k⟩⟩
theorem kbI9 {K : PySem.W.Frag} {f : Addr} {fd : FuncData} (F : Fun K "__init__" "InvalidNumber.__init__" sI9 f fd) : KBn K fd ["self", "value"] 1 ["value"] (fun us ws => us ++ ws) (fun vs zs => vs ++ zs) :=
  kbOf F (fun _ _ _ _ _ _ us ws h1 h2 => match us, ws, h1, h2 with | [_], [_], _, _ => rfl) fun r1 r2 => r1.append r2
theorem bdI9 {K : PySem.W.Frag} {f : Addr} {fd : FuncData} (F : Fun K "__init__" "InvalidNumber.__init__" sI9 f fd) : Binds K fd ["self", "value"] [] := F.binds fun _ _ _ _ _ _ us hl => match us, hl with | [_, _], _ => rfl
abbrev sI10 : Stmt := inClass (top 10) 0
theorem scI10 : FnScope ["self", "value"] ["self", "value"] (defScope sI10) := ⟨rfl, rfl, rfl, by decide +kernel, rfl, by decide +kernel, by decide +kernel⟩
theorem okI10 {P : Program} {w : World} {K : PySem.W.Frag} {mg : Str → Option Value} {base : Heap} {f C : Addr} {fd : FuncData} {newId : String} {bmB : List Value} (F : Fun K "__init__" "InvalidRest.__init__" sI10 f fd) (T : Tail bmB) (O : OxC K C newId bmB)
    (no : PySem.W.findIn K (.ref C) "value" = some none) : FnOk P w K mg base CX0 1 f fd ["self", "value"] (spI1 C "value") := by
  refine F.ok scI10 (fun vs H Q E h => ?_) (fun cdv A outer s H vs Q E hr h => ?_)
  · obtain ⟨a, v, rfl, _⟩ := h
    rfl
  · obtain ⟨a, v, rfl, ha, k⟩ := h
    exact ⟨_, pss_one (ps_xst (pv 0) (pv 1)), v, rfl, .ref a, rfl, a, C, newId, bmB, rfl, T, O, no, .inl ⟨ha, k⟩⟩
theorem kbI10 {K : PySem.W.Frag} {f : Addr} {fd : FuncData} (F : Fun K "__init__" "InvalidRest.__init__" sI10 f fd) : KBn K fd ["self", "value"] 1 ["value"] (fun us ws => us ++ ws) (fun vs zs => vs ++ zs) :=
  kbOf F (fun _ _ _ _ _ _ us ws h1 h2 => match us, ws, h1, h2 with | [_], [_], _, _ => rfl) fun r1 r2 => r1.append r2
theorem bdI10 {K : PySem.W.Frag} {f : Addr} {fd : FuncData} (F : Fun K "__init__" "InvalidRest.__init__" sI10 f fd) : Binds K fd ["self", "value"] [] := F.binds fun _ _ _ _ _ _ us hl => match us, hl with | [_, _], _ => rfl
abbrev sI11 : Stmt := inClass (top 11) 0
theorem scI11 : FnScope ["self", "value"] ["self", "value"] (defScope sI11) := ⟨rfl, rfl, rfl, by decide +kernel, rfl, by decide +kernel, by decide +kernel⟩
theorem okI11 {P : Program} {w : World} {K : PySem.W.Frag} {mg : Str → Option Value} {base : Heap} {f C : Addr} {fd : FuncData} {newId : String} {bmB : List Value} (F : Fun K "__init__" "InvalidChoice.__init__" sI11 f fd) (T : Tail bmB) (O : OxC K C newId bmB)
    (no : PySem.W.findIn K (.ref C) "value" = some none) : FnOk P w K mg base CX0 1 f fd ["self", "value"] (spI1 C "value") := by
  refine F.ok scI11 (fun vs H Q E h => ?_) (fun cdv A outer s H vs Q E hr h => ?_)
  · obtain ⟨a, v, rfl, _⟩ := h
    rfl
  · obtain ⟨a, v, rfl, ha, k⟩ := h
    exact ⟨_, pss_one (ps_xst (pv 0) (pv 1)), v, rfl, .ref a, rfl, a, C, newId, bmB, rfl, T, O, no, .inl ⟨ha, k⟩⟩
theorem kbI11 {K : PySem.W.Frag} {f : Addr} {fd : FuncData} (F : Fun K "__init__" "InvalidChoice.__init__" sI11 f fd) : KBn K fd ["self", "value"] 1 ["value"] (fun us ws => us ++ ws) (fun vs zs => vs ++ zs) :=
  kbOf F (fun _ _ _ _ _ _ us ws h1 h2 => match us, ws, h1, h2 with | [_], [_], _, _ => rfl) fun r1 r2 => r1.append r2
theorem bdI11 {K : PySem.W.Frag} {f : Addr} {fd : FuncData} (F : Fun K "__init__" "InvalidChoice.__init__" sI11 f fd) : Binds K fd ["self", "value"] [] := F.binds fun _ _ _ _ _ _ us hl => match us, hl with | [_, _], _ => rfl
abbrev sI12 : Stmt := inClass (top 12) 0
theorem scI12 : FnScope ["self", "value"] ["self", "value"] (defScope sI12) := ⟨rfl, rfl, rfl, by decide +kernel, rfl, by decide +kernel, by decide +kernel⟩
theorem okI12 {P : Program} {w : World} {K : PySem.W.Frag} {mg : Str → Option Value} {base : Heap} {f C : Addr} {fd : FuncData} {newId : String} {bmB : List Value} (F : Fun K "__init__" "InvalidLine.__init__" sI12 f fd) (T : Tail bmB) (O : OxC K C newId bmB)
    (no : PySem.W.findIn K (.ref C) "value" = some none) : FnOk P w K mg base CX0 1 f fd ["self", "value"] (spI1 C "value") := by
  refine F.ok scI12 (fun vs H Q E h => ?_) (fun cdv A outer s H vs Q E hr h => ?_)
  · obtain ⟨a, v, rfl, _⟩ := h
    rfl
  · obtain ⟨a, v, rfl, ha, k⟩ := h
    exact ⟨_, pss_one (ps_xst (pv 0) (pv 1)), v, rfl, .ref a, rfl, a, C, newId, bmB, rfl, T, O, no, .inl ⟨ha, k⟩⟩
theorem kbI12 {K : PySem.W.Frag} {f : Addr} {fd : FuncData} (F : Fun K "__init__" "InvalidLine.__init__" sI12 f fd) : KBn K fd ["self", "value"] 1 ["value"] (fun us ws => us ++ ws) (fun vs zs => vs ++ zs) :=
  kbOf F (fun _ _ _ _ _ _ us ws h1 h2 => match us, ws, h1, h2 with | [_], [_], _, _ => rfl) fun r1 r2 => r1.append r2
theorem bdI12 {K : PySem.W.Frag} {f : Addr} {fd : FuncData} (F : Fun K "__init__" "InvalidLine.__init__" sI12 f fd) : Binds K fd ["self", "value"] [] := F.binds fun _ _ _ _ _ _ us hl => match us, hl with | [_, _], _ => rfl
abbrev sI13 : Stmt := inClass (top 13) 0
theorem scI13 : FnScope ["self", "value"] ["self", "value"] (defScope sI13) := ⟨rfl, rfl, rfl, by decide +kernel, rfl, by decide +kernel, by decide +kernel⟩
theorem okI13 {P : Program} {w : World} {K : PySem.W.Frag} {mg : Str → Option Value} {base : Heap} {f C : Addr} {fd : FuncData} {newId : String} {bmB : List Value} (F : Fun K "__init__" "UnknownKind.__init__" sI13 f fd) (T : Tail bmB) (O : OxC K C newId bmB)
    (no : PySem.W.findIn K (.ref C) "value" = some none) : FnOk P w K mg base CX0 1 f fd ["self", "value"] (spI1 C "value") := by
  refine F.ok scI13 (fun vs H Q E h => ?_) (fun cdv A outer s H vs Q E hr h => ?_)
  · obtain ⟨a, v, rfl, _⟩ := h
    rfl
  · obtain ⟨a, v, rfl, ha, k⟩ := h
    exact ⟨_, pss_one (ps_xst (pv 0) (pv 1)), v, rfl, .ref a, rfl, a, C, newId, bmB, rfl, T, O, no, .inl ⟨ha, k⟩⟩
theorem kbI13 {K : PySem.W.Frag} {f : Addr} {fd : FuncData} (F : Fun K "__init__" "UnknownKind.__init__" sI13 f fd) : KBn K fd ["self", "value"] 1 ["value"] (fun us ws => us ++ ws) (fun vs zs => vs ++ zs) :=
  kbOf F (fun _ _ _ _ _ _ us ws h1 h2 => match us, ws, h1, h2 with | [_], [_], _, _ => rfl) fun r1 r2 => r1.append r2
theorem bdI13 {K : PySem.W.Frag} {f : Addr} {fd : FuncData} (F : Fun K "__init__" "UnknownKind.__init__" sI13 f fd) : Binds K fd ["self", "value"] [] := F.binds fun _ _ _ _ _ _ us hl => match us, hl with | [_, _], _ => rfl
abbrev sI14 : Stmt := inClass (top 14) 0
theorem scI14 : FnScope ["self", "index"] ["self", "index"] (defScope sI14) := ⟨rfl, rfl, rfl, by decide +kernel, rfl, by decide +kernel, by decide +kernel⟩
theorem okI14 {P : Program} {w : World} {K : PySem.W.Frag} {mg : Str → Option Value} {base : Heap} {f C : Addr} {fd : FuncData} {newId : String} {bmB : List Value} (F : Fun K "__init__" "InvalidPairs.__init__" sI14 f fd) (T : Tail bmB) (O : OxC K C newId bmB)
    (no : PySem.W.findIn K (.ref C) "index" = some none) : FnOk P w K mg base CX0 1 f fd ["self", "index"] (spI1 C "index") := by
  refine F.ok scI14 (fun vs H Q E h => ?_) (fun cdv A outer s H vs Q E hr h => ?_)
  · obtain ⟨a, v, rfl, _⟩ := h
    rfl
  · obtain ⟨a, v, rfl, ha, k⟩ := h
    exact ⟨_, pss_one (ps_xst (pv 0) (pv 1)), v, rfl, .ref a, rfl, a, C, newId, bmB, rfl, T, O, no, .inl ⟨ha, k⟩⟩
theorem kbI14 {K : PySem.W.Frag} {f : Addr} {fd : FuncData} (F : Fun K "__init__" "InvalidPairs.__init__" sI14 f fd) : KBn K fd ["self", "index"] 1 ["index"] (fun us ws => us ++ ws) (fun vs zs => vs ++ zs) :=
  kbOf F (fun _ _ _ _ _ _ us ws h1 h2 => match us, ws, h1, h2 with | [_], [_], _, _ => rfl) fun r1 r2 => r1.append r2
theorem bdI14 {K : PySem.W.Frag} {f : Addr} {fd : FuncData} (F : Fun K "__init__" "InvalidPairs.__init__" sI14 f fd) : Binds K fd ["self", "index"] [] := F.binds fun _ _ _ _ _ _ us hl => match us, hl with | [_, _], _ => rfl
abbrev sI15 : Stmt := inClass (top 15) 0
theorem scI15 : FnScope ["self", "index"] ["self", "index"] (defScope sI15) := ⟨rfl, rfl, rfl, by decide +kernel, rfl, by decide +kernel, by decide +kernel⟩
theorem okI15 {P : Program} {w : World} {K : PySem.W.Frag} {mg : Str → Option Value} {base : Heap} {f C : Addr} {fd : FuncData} {newId : String} {bmB : List Value} (F : Fun K "__init__" "InvalidKinds.__init__" sI15 f fd) (T : Tail bmB) (O : OxC K C newId bmB)
    (no : PySem.W.findIn K (.ref C) "index" = some none) : FnOk P w K mg base CX0 1 f fd ["self", "index"] (spI1 C "index") := by
  refine F.ok scI15 (fun vs H Q E h => ?_) (fun cdv A outer s H vs Q E hr h => ?_)
  · obtain ⟨a, v, rfl, _⟩ := h
    rfl
  · obtain ⟨a, v, rfl, ha, k⟩ := h
    exact ⟨_, pss_one (ps_xst (pv 0) (pv 1)), v, rfl, .ref a, rfl, a, C, newId, bmB, rfl, T, O, no, .inl ⟨ha, k⟩⟩
theorem kbI15 {K : PySem.W.Frag} {f : Addr} {fd : FuncData} (F : Fun K "__init__" "InvalidKinds.__init__" sI15 f fd) : KBn K fd ["self", "index"] 1 ["index"] (fun us ws => us ++ ws) (fun vs zs => vs ++ zs) :=
  kbOf F (fun _ _ _ _ _ _ us ws h1 h2 => match us, ws, h1, h2 with | [_], [_], _, _ => rfl) fun r1 r2 => r1.append r2
theorem bdI15 {K : PySem.W.Frag} {f : Addr} {fd : FuncData} (F : Fun K "__init__" "InvalidKinds.__init__" sI15 f fd) : Binds K fd ["self", "index"] [] := F.binds fun _ _ _ _ _ _ us hl => match us, hl with | [_, _], _ => rfl
abbrev sI16 : Stmt := inClass (top 16) 0
theorem scI16 : FnScope ["self", "index"] ["self", "index"] (defScope sI16) := ⟨rfl, rfl, rfl, by decide +kernel, rfl, by decide +kernel, by decide +kernel⟩
theorem okI16 {P : Program} {w : World} {K : PySem.W.Frag} {mg : Str → Option Value} {base : Heap} {f C : Addr} {fd : FuncData} {newId : String} {bmB : List Value} (F : Fun K "__init__" "InvalidRows.__init__" sI16 f fd) (T : Tail bmB) (O : OxC K C newId bmB)
    (no : PySem.W.findIn K (.ref C) "index" = some none) : FnOk P w K mg base CX0 1 f fd ["self", "index"] (spI1 C "index") := by
  refine F.ok scI16 (fun vs H Q E h => ?_) (fun cdv A outer s H vs Q E hr h => ?_)
  · obtain ⟨a, v, rfl, _⟩ := h
    rfl
  · obtain ⟨a, v, rfl, ha, k⟩ := h
    exact ⟨_, pss_one (ps_xst (pv 0) (pv 1)), v, rfl, .ref a, rfl, a, C, newId, bmB, rfl, T, O, no, .inl ⟨ha, k⟩⟩
theorem kbI16 {K : PySem.W.Frag} {f : Addr} {fd : FuncData} (F : Fun K "__init__" "InvalidRows.__init__" sI16 f fd) : KBn K fd ["self", "index"] 1 ["index"] (fun us ws => us ++ ws) (fun vs zs => vs ++ zs) :=
  kbOf F (fun _ _ _ _ _ _ us ws h1 h2 => match us, ws, h1, h2 with | [_], [_], _, _ => rfl) fun r1 r2 => r1.append r2
theorem bdI16 {K : PySem.W.Frag} {f : Addr} {fd : FuncData} (F : Fun K "__init__" "InvalidRows.__init__" sI16 f fd) : Binds K fd ["self", "index"] [] := F.binds fun _ _ _ _ _ _ us hl => match us, hl with | [_, _], _ => rfl
abbrev sI17 : Stmt := inClass (top 17) 0
theorem scI17 : FnScope ["self", "index"] ["self", "index"] (defScope sI17) := ⟨rfl, rfl, rfl, by decide +kernel, rfl, by decide +kernel, by decide +kernel⟩
theorem okI17 {P : Program} {w : World} {K : PySem.W.Frag} {mg : Str → Option Value} {base : Heap} {f C : Addr} {fd : FuncData} {newId : String} {bmB : List Value} (F : Fun K "__init__" "InvalidNames.__init__" sI17 f fd) (T : Tail bmB) (O : OxC K C newId bmB)
    (no : PySem.W.findIn K (.ref C) "index" = some none) : FnOk P w K mg base CX0 1 f fd ["self", "index"] (spI1 C "index") := by
  refine F.ok scI17 (fun vs H Q E h => ?_) (fun cdv A outer s H vs Q E hr h => ?_)
  · obtain ⟨a, v, rfl, _⟩ := h
    rfl
  · obtain ⟨a, v, rfl, ha, k⟩ := h
    exact ⟨_, pss_one (ps_xst (pv 0) (pv 1)), v, rfl, .ref a, rfl, a, C, newId, bmB, rfl, T, O, no, .inl ⟨ha, k⟩⟩
theorem kbI17 {K : PySem.W.Frag} {f : Addr} {fd : FuncData} (F : Fun K "__init__" "InvalidNames.__init__" sI17 f fd) : KBn K fd ["self", "index"] 1 ["index"] (fun us ws => us ++ ws) (fun vs zs => vs ++ zs) :=
  kbOf F (fun _ _ _ _ _ _ us ws h1 h2 => match us, ws, h1, h2 with | [_], [_], _, _ => rfl) fun r1 r2 => r1.append r2
theorem bdI17 {K : PySem.W.Frag} {f : Addr} {fd : FuncData} (F : Fun K "__init__" "InvalidNames.__init__" sI17 f fd) : Binds K fd ["self", "index"] [] := F.binds fun _ _ _ _ _ _ us hl => match us, hl with | [_, _], _ => rfl
abbrev sI18 : Stmt := inClass (top 18) 0
theorem scI18 : FnScope ["self", "index"] ["self", "index"] (defScope sI18) := ⟨rfl, rfl, rfl, by decide +kernel, rfl, by decide +kernel, by decide +kernel⟩
theorem okI18 {P : Program} {w : World} {K : PySem.W.Frag} {mg : Str → Option Value} {base : Heap} {f C : Addr} {fd : FuncData} {newId : String} {bmB : List Value} (F : Fun K "__init__" "InvalidHandlers.__init__" sI18 f fd) (T : Tail bmB) (O : OxC K C newId bmB)
    (no : PySem.W.findIn K (.ref C) "index" = some none) : FnOk P w K mg base CX0 1 f fd ["self", "index"] (spI1 C "index") := by
  refine F.ok scI18 (fun vs H Q E h => ?_) (fun cdv A outer s H vs Q E hr h => ?_)
  · obtain ⟨a, v, rfl, _⟩ := h
    rfl
  · obtain ⟨a, v, rfl, ha, k⟩ := h
    exact ⟨_, pss_one (ps_xst (pv 0) (pv 1)), v, rfl, .ref a, rfl, a, C, newId, bmB, rfl, T, O, no, .inl ⟨ha, k⟩⟩
theorem kbI18 {K : PySem.W.Frag} {f : Addr} {fd : FuncData} (F : Fun K "__init__" "InvalidHandlers.__init__" sI18 f fd) : KBn K fd ["self", "index"] 1 ["index"] (fun us ws => us ++ ws) (fun vs zs => vs ++ zs) :=
  kbOf F (fun _ _ _ _ _ _ us ws h1 h2 => match us, ws, h1, h2 with | [_], [_], _, _ => rfl) fun r1 r2 => r1.append r2
theorem bdI18 {K : PySem.W.Frag} {f : Addr} {fd : FuncData} (F : Fun K "__init__" "InvalidHandlers.__init__" sI18 f fd) : Binds K fd ["self", "index"] [] := F.binds fun _ _ _ _ _ _ us hl => match us, hl with | [_, _], _ => rfl
abbrev sI19 : Stmt := inClass (top 19) 0
theorem scI19 : FnScope ["self", "index"] ["self", "index"] (defScope sI19) := ⟨rfl, rfl, rfl, by decide +kernel, rfl, by decide +kernel, by decide +kernel⟩
theorem okI19 {P : Program} {w : World} {K : PySem.W.Frag} {mg : Str → Option Value} {base : Heap} {f C : Addr} {fd : FuncData} {newId : String} {bmB : List Value} (F : Fun K "__init__" "InvalidEntries.__init__" sI19 f fd) (T : Tail bmB) (O : OxC K C newId bmB)
    (no : PySem.W.findIn K (.ref C) "index" = some none) : FnOk P w K mg base CX0 1 f fd ["self", "index"] (spI1 C "index") := by
  refine F.ok scI19 (fun vs H Q E h => ?_) (fun cdv A outer s H vs Q E hr h => ?_)
  · obtain ⟨a, v, rfl, _⟩ := h
    rfl
  · obtain ⟨a, v, rfl, ha, k⟩ := h
    exact ⟨_, pss_one (ps_xst (pv 0) (pv 1)), v, rfl, .ref a, rfl, a, C, newId, bmB, rfl, T, O, no, .inl ⟨ha, k⟩⟩
theorem kbI19 {K : PySem.W.Frag} {f : Addr} {fd : FuncData} (F : Fun K "__init__" "InvalidEntries.__init__" sI19 f fd) : KBn K fd ["self", "index"] 1 ["index"] (fun us ws => us ++ ws) (fun vs zs => vs ++ zs) :=
  kbOf F (fun _ _ _ _ _ _ us ws h1 h2 => match us, ws, h1, h2 with | [_], [_], _, _ => rfl) fun r1 r2 => r1.append r2
theorem bdI19 {K : PySem.W.Frag} {f : Addr} {fd : FuncData} (F : Fun K "__init__" "InvalidEntries.__init__" sI19 f fd) : Binds K fd ["self", "index"] [] := F.binds fun _ _ _ _ _ _ us hl => match us, hl with | [_, _], _ => rfl
abbrev sI20 : Stmt := inClass (top 20) 0
theorem scI20 : FnScope ["self", "index"] ["self", "index"] (defScope sI20) := ⟨rfl, rfl, rfl, by decide +kernel, rfl, by decide +kernel, by decide +kernel⟩
theorem okI20 {P : Program} {w : World} {K : PySem.W.Frag} {mg : Str → Option Value} {base : Heap} {f C : Addr} {fd : FuncData} {newId : String} {bmB : List Value} (F : Fun K "__init__" "InvalidIndexes.__init__" sI20 f fd) (T : Tail bmB) (O : OxC K C newId bmB)
    (no : PySem.W.findIn K (.ref C) "index" = some none) : FnOk P w K mg base CX0 1 f fd ["self", "index"] (spI1 C "index") := by
  refine F.ok scI20 (fun vs H Q E h => ?_) (fun cdv A outer s H vs Q E hr h => ?_)
  · obtain ⟨a, v, rfl, _⟩ := h
    rfl
  · obtain ⟨a, v, rfl, ha, k⟩ := h
    exact ⟨_, pss_one (ps_xst (pv 0) (pv 1)), v, rfl, .ref a, rfl, a, C, newId, bmB, rfl, T, O, no, .inl ⟨ha, k⟩⟩
theorem kbI20 {K : PySem.W.Frag} {f : Addr} {fd : FuncData} (F : Fun K "__init__" "InvalidIndexes.__init__" sI20 f fd) : KBn K fd ["self", "index"] 1 ["index"] (fun us ws => us ++ ws) (fun vs zs => vs ++ zs) :=
  kbOf F (fun _ _ _ _ _ _ us ws h1 h2 => match us, ws, h1, h2 with | [_], [_], _, _ => rfl) fun r1 r2 => r1.append r2
theorem bdI20 {K : PySem.W.Frag} {f : Addr} {fd : FuncData} (F : Fun K "__init__" "InvalidIndexes.__init__" sI20 f fd) : Binds K fd ["self", "index"] [] := F.binds fun _ _ _ _ _ _ us hl => match us, hl with | [_, _], _ => rfl
abbrev sI21 : Stmt := inClass (top 21) 0
theorem scI21 : FnScope ["self", "index"] ["self", "index"] (defScope sI21) := ⟨rfl, rfl, rfl, by decide +kernel, rfl, by decide +kernel, by decide +kernel⟩
theorem okI21 {P : Program} {w : World} {K : PySem.W.Frag} {mg : Str → Option Value} {base : Heap} {f C : Addr} {fd : FuncData} {newId : String} {bmB : List Value} (F : Fun K "__init__" "InvalidTerms.__init__" sI21 f fd) (T : Tail bmB) (O : OxC K C newId bmB)
    (no : PySem.W.findIn K (.ref C) "index" = some none) : FnOk P w K mg base CX0 1 f fd ["self", "index"] (spI1 C "index") := by
  refine F.ok scI21 (fun vs H Q E h => ?_) (fun cdv A outer s H vs Q E hr h => ?_)
  · obtain ⟨a, v, rfl, _⟩ := h
    rfl
  · obtain ⟨a, v, rfl, ha, k⟩ := h
    exact ⟨_, pss_one (ps_xst (pv 0) (pv 1)), v, rfl, .ref a, rfl, a, C, newId, bmB, rfl, T, O, no, .inl ⟨ha, k⟩⟩
theorem kbI21 {K : PySem.W.Frag} {f : Addr} {fd : FuncData} (F : Fun K "__init__" "InvalidTerms.__init__" sI21 f fd) : KBn K fd ["self", "index"] 1 ["index"] (fun us ws => us ++ ws) (fun vs zs => vs ++ zs) :=
  kbOf F (fun _ _ _ _ _ _ us ws h1 h2 => match us, ws, h1, h2 with | [_], [_], _, _ => rfl) fun r1 r2 => r1.append r2
theorem bdI21 {K : PySem.W.Frag} {f : Addr} {fd : FuncData} (F : Fun K "__init__" "InvalidTerms.__init__" sI21 f fd) : Binds K fd ["self", "index"] [] := F.binds fun _ _ _ _ _ _ us hl => match us, hl with | [_, _], _ => rfl
abbrev sI22 : Stmt := inClass (top 22) 0
theorem scI22 : FnScope ["self", "index"] ["self", "index"] (defScope sI22) := ⟨rfl, rfl, rfl, by decide +kernel, rfl, by decide +kernel, by decide +kernel⟩
theorem okI22 {P : Program} {w : World} {K : PySem.W.Frag} {mg : Str → Option Value} {base : Heap} {f C : Addr} {fd : FuncData} {newId : String} {bmB : List Value} (F : Fun K "__init__" "InvalidDeeds.__init__" sI22 f fd) (T : Tail bmB) (O : OxC K C newId bmB)
    (no : PySem.W.findIn K (.ref C) "index" = some none) : FnOk P w K mg base CX0 1 f fd ["self", "index"] (spI1 C "index") := by
  refine F.ok scI22 (fun vs H Q E h => ?_) (fun cdv A outer s H vs Q E hr h => ?_)
  · obtain ⟨a, v, rfl, _⟩ := h
    rfl
  · obtain ⟨a, v, rfl, ha, k⟩ := h
    exact ⟨_, pss_one (ps_xst (pv 0) (pv 1)), v, rfl, .ref a, rfl, a, C, newId, bmB, rfl, T, O, no, .inl ⟨ha, k⟩⟩
theorem kbI22 {K : PySem.W.Frag} {f : Addr} {fd : FuncData} (F : Fun K "__init__" "InvalidDeeds.__init__" sI22 f fd) : KBn K fd ["self", "index"] 1 ["index"] (fun us ws => us ++ ws) (fun vs zs => vs ++ zs) :=
  kbOf F (fun _ _ _ _ _ _ us ws h1 h2 => match us, ws, h1, h2 with | [_], [_], _, _ => rfl) fun r1 r2 => r1.append r2
theorem bdI22 {K : PySem.W.Frag} {f : Addr} {fd : FuncData} (F : Fun K "__init__" "InvalidDeeds.__init__" sI22 f fd) : Binds K fd ["self", "index"] [] := F.binds fun _ _ _ _ _ _ us hl => match us, hl with | [_, _], _ => rfl
abbrev sI23 : Stmt := inClass (top 23) 0
theorem scI23 : FnScope ["self", "name"] ["self", "name"] (defScope sI23) := ⟨rfl, rfl, rfl, by decide +kernel, rfl, by decide +kernel, by decide +kernel⟩
theorem okI23 {P : Program} {w : World} {K : PySem.W.Frag} {mg : Str → Option Value} {base : Heap} {f C : Addr} {fd : FuncData} {newId : String} {bmB : List Value} (F : Fun K "__init__" "Lacking.__init__" sI23 f fd) (T : Tail bmB) (O : OxC K C newId bmB)
    (no : PySem.W.findIn K (.ref C) "name" = some none) : FnOk P w K mg base CX0 1 f fd ["self", "name"] (spI1 C "name") := by
  refine F.ok scI23 (fun vs H Q E h => ?_) (fun cdv A outer s H vs Q E hr h => ?_)
  · obtain ⟨a, v, rfl, _⟩ := h
    rfl
  · obtain ⟨a, v, rfl, ha, k⟩ := h
    exact ⟨_, pss_one (ps_xst (pv 0) (pv 1)), v, rfl, .ref a, rfl, a, C, newId, bmB, rfl, T, O, no, .inl ⟨ha, k⟩⟩
theorem kbI23 {K : PySem.W.Frag} {f : Addr} {fd : FuncData} (F : Fun K "__init__" "Lacking.__init__" sI23 f fd) : KBn K fd ["self", "name"] 1 ["name"] (fun us ws => us ++ ws) (fun vs zs => vs ++ zs) :=
  kbOf F (fun _ _ _ _ _ _ us ws h1 h2 => match us, ws, h1, h2 with | [_], [_], _, _ => rfl) fun r1 r2 => r1.append r2
theorem bdI23 {K : PySem.W.Frag} {f : Addr} {fd : FuncData} (F : Fun K "__init__" "Lacking.__init__" sI23 f fd) : Binds K fd ["self", "name"] [] := F.binds fun _ _ _ _ _ _ us hl => match us, hl with | [_, _], _ => rfl
abbrev sI25 : Stmt := inClass (top 25) 0
theorem scI25 : FnScope ["self", "rest"] ["self", "rest"] (defScope sI25) := ⟨rfl, rfl, rfl, by decide +kernel, rfl, by decide +kernel, by decide +kernel⟩
theorem okI25 {P : Program} {w : World} {K : PySem.W.Frag} {mg : Str → Option Value} {base : Heap} {f C : Addr} {fd : FuncData} {newId : String} {bmB : List Value} (F : Fun K "__init__" "NotLasting.__init__" sI25 f fd) (T : Tail bmB) (O : OxC K C newId bmB)
    (no : PySem.W.findIn K (.ref C) "rest" = some none) : FnOk P w K mg base CX0 1 f fd ["self", "rest"] (spI1 C "rest") := by
  refine F.ok scI25 (fun vs H Q E h => ?_) (fun cdv A outer s H vs Q E hr h => ?_)
  · obtain ⟨a, v, rfl, _⟩ := h
    rfl
  · obtain ⟨a, v, rfl, ha, k⟩ := h
    exact ⟨_, pss_one (ps_xst (pv 0) (pv 1)), v, rfl, .ref a, rfl, a, C, newId, bmB, rfl, T, O, no, .inl ⟨ha, k⟩⟩
theorem kbI25 {K : PySem.W.Frag} {f : Addr} {fd : FuncData} (F : Fun K "__init__" "NotLasting.__init__" sI25 f fd) : KBn K fd ["self", "rest"] 1 ["rest"] (fun us ws => us ++ ws) (fun vs zs => vs ++ zs) :=
  kbOf F (fun _ _ _ _ _ _ us ws h1 h2 => match us, ws, h1, h2 with | [_], [_], _, _ => rfl) fun r1 r2 => r1.append r2
theorem bdI25 {K : PySem.W.Frag} {f : Addr} {fd : FuncData} (F : Fun K "__init__" "NotLasting.__init__" sI25 f fd) : Binds K fd ["self", "rest"] [] := F.binds fun _ _ _ _ _ _ us hl => match us, hl with | [_, _], _ => rfl
abbrev sI26 : Stmt := inClass (top 26) 0
theorem scI26 : FnScope ["self", "load"] ["self", "load"] (defScope sI26) := ⟨rfl, rfl, rfl, by decide +kernel, rfl, by decide +kernel, by decide +kernel⟩
theorem okI26 {P : Program} {w : World} {K : PySem.W.Frag} {mg : Str → Option Value} {base : Heap} {f C : Addr} {fd : FuncData} {newId : String} {bmB : List Value} (F : Fun K "__init__" "Meddling.__init__" sI26 f fd) (T : Tail bmB) (O : OxC K C newId bmB)
    (no : PySem.W.findIn K (.ref C) "load" = some none) : FnOk P w K mg base CX0 1 f fd ["self", "load"] (spI1 C "load") := by
  refine F.ok scI26 (fun vs H Q E h => ?_) (fun cdv A outer s H vs Q E hr h => ?_)
  · obtain ⟨a, v, rfl, _⟩ := h
    rfl
  · obtain ⟨a, v, rfl, ha, k⟩ := h
    exact ⟨_, pss_one (ps_xst (pv 0) (pv 1)), v, rfl, .ref a, rfl, a, C, newId, bmB, rfl, T, O, no, .inl ⟨ha, k⟩⟩
theorem kbI26 {K : PySem.W.Frag} {f : Addr} {fd : FuncData} (F : Fun K "__init__" "Meddling.__init__" sI26 f fd) : KBn K fd ["self", "load"] 1 ["load"] (fun us ws => us ++ ws) (fun vs zs => vs ++ zs) :=
  kbOf F (fun _ _ _ _ _ _ us ws h1 h2 => match us, ws, h1, h2 with | [_], [_], _, _ => rfl) fun r1 r2 => r1.append r2
theorem bdI26 {K : PySem.W.Frag} {f : Addr} {fd : FuncData} (F : Fun K "__init__" "Meddling.__init__" sI26 f fd) : Binds K fd ["self", "load"] [] := F.binds fun _ _ _ _ _ _ us hl => match us, hl with | [_, _], _ => rfl
abbrev sI27 : Stmt := inClass (top 27) 0
theorem scI27 : FnScope ["self", "load"] ["self", "load"] (defScope sI27) := ⟨rfl, rfl, rfl, by decide +kernel, rfl, by decide +kernel, by decide +kernel⟩
theorem okI27 {P : Program} {w : World} {K : PySem.W.Frag} {mg : Str → Option Value} {base : Heap} {f C : Addr} {fd : FuncData} {newId : String} {bmB : List Value} (F : Fun K "__init__" "Refused.__init__" sI27 f fd) (T : Tail bmB) (O : OxC K C newId bmB)
    (no : PySem.W.findIn K (.ref C) "load" = some none) : FnOk P w K mg base CX0 1 f fd ["self", "load"] (spI1 C "load") := by
  refine F.ok scI27 (fun vs H Q E h => ?_) (fun cdv A outer s H vs Q E hr h => ?_)
  · obtain ⟨a, v, rfl, _⟩ := h
    rfl
  · obtain ⟨a, v, rfl, ha, k⟩ := h
    exact ⟨_, pss_one (ps_xst (pv 0) (pv 1)), v, rfl, .ref a, rfl, a, C, newId, bmB, rfl, T, O, no, .inl ⟨ha, k⟩⟩
theorem kbI27 {K : PySem.W.Frag} {f : Addr} {fd : FuncData} (F : Fun K "__init__" "Refused.__init__" sI27 f fd) : KBn K fd ["self", "load"] 1 ["load"] (fun us ws => us ++ ws) (fun vs zs => vs ++ zs) :=
  kbOf F (fun _ _ _ _ _ _ us ws h1 h2 => match us, ws, h1, h2 with | [_], [_], _, _ => rfl) fun r1 r2 => r1.append r2
theorem bdI27 {K : PySem.W.Frag} {f : Addr} {fd : FuncData} (F : Fun K "__init__" "Refused.__init__" sI27 f fd) : Binds K fd ["self", "load"] [] := F.binds fun _ _ _ _ _ _ us hl => match us, hl with | [_, _], _ => rfl
abbrev sI32 : Stmt := inClass (top 32) 0
theorem scI32 : FnScope ["self", "limit"] ["self", "limit"] (defScope sI32) := ⟨rfl, rfl, rfl, by decide +kernel, rfl, by decide +kernel, by decide +kernel⟩
theorem okI32 {P : Program} {w : World} {K : PySem.W.Frag} {mg : Str → Option Value} {base : Heap} {f C : Addr} {fd : FuncData} {newId : String} {bmB : List Value} (F : Fun K "__init__" "TooManyKinds.__init__" sI32 f fd) (T : Tail bmB) (O : OxC K C newId bmB)
    (no : PySem.W.findIn K (.ref C) "limit" = some none) : FnOk P w K mg base CX0 1 f fd ["self", "limit"] (spI1 C "limit") := by
  refine F.ok scI32 (fun vs H Q E h => ?_) (fun cdv A outer s H vs Q E hr h => ?_)
  · obtain ⟨a, v, rfl, _⟩ := h
    rfl
  · obtain ⟨a, v, rfl, ha, k⟩ := h
    exact ⟨_, pss_one (ps_xst (pv 0) (pv 1)), v, rfl, .ref a, rfl, a, C, newId, bmB, rfl, T, O, no, .inl ⟨ha, k⟩⟩
theorem kbI32 {K : PySem.W.Frag} {f : Addr} {fd : FuncData} (F : Fun K "__init__" "TooManyKinds.__init__" sI32 f fd) : KBn K fd ["self", "limit"] 1 ["limit"] (fun us ws => us ++ ws) (fun vs zs => vs ++ zs) :=
  kbOf F (fun _ _ _ _ _ _ us ws h1 h2 => match us, ws, h1, h2 with | [_], [_], _, _ => rfl) fun r1 r2 => r1.append r2
theorem bdI32 {K : PySem.W.Frag} {f : Addr} {fd : FuncData} (F : Fun K "__init__" "TooManyKinds.__init__" sI32 f fd) : Binds K fd ["self", "limit"] [] := F.binds fun _ _ _ _ _ _ us hl => match us, hl with | [_, _], _ => rfl
abbrev sI33 : Stmt := inClass (top 33) 0
theorem scI33 : FnScope ["self", "limit"] ["self", "limit"] (defScope sI33) := ⟨rfl, rfl, rfl, by decide +kernel, rfl, by decide +kernel, by decide +kernel⟩
theorem okI33 {P : Program} {w : World} {K : PySem.W.Frag} {mg : Str → Option Value} {base : Heap} {f C : Addr} {fd : FuncData} {newId : String} {bmB : List Value} (F : Fun K "__init__" "TooManyStates.__init__" sI33 f fd) (T : Tail bmB) (O : OxC K C newId bmB)
    (no : PySem.W.findIn K (.ref C) "limit" = some none) : FnOk P w K mg base CX0 1 f fd ["self", "limit"] (spI1 C "limit") := by
  refine F.ok scI33 (fun vs H Q E h => ?_) (fun cdv A outer s H vs Q E hr h => ?_)
  · obtain ⟨a, v, rfl, _⟩ := h
    rfl
  · obtain ⟨a, v, rfl, ha, k⟩ := h
    exact ⟨_, pss_one (ps_xst (pv 0) (pv 1)), v, rfl, .ref a, rfl, a, C, newId, bmB, rfl, T, O, no, .inl ⟨ha, k⟩⟩
theorem kbI33 {K : PySem.W.Frag} {f : Addr} {fd : FuncData} (F : Fun K "__init__" "TooManyStates.__init__" sI33 f fd) : KBn K fd ["self", "limit"] 1 ["limit"] (fun us ws => us ++ ws) (fun vs zs => vs ++ zs) :=
  kbOf F (fun _ _ _ _ _ _ us ws h1 h2 => match us, ws, h1, h2 with | [_], [_], _, _ => rfl) fun r1 r2 => r1.append r2
theorem bdI33 {K : PySem.W.Frag} {f : Addr} {fd : FuncData} (F : Fun K "__init__" "TooManyStates.__init__" sI33 f fd) : Binds K fd ["self", "limit"] [] := F.binds fun _ _ _ _ _ _ us hl => match us, hl with | [_, _], _ => rfl
abbrev sI34 : Stmt := inClass (top 34) 0
theorem scI34 : FnScope ["self", "limit"] ["self", "limit"] (defScope sI34) := ⟨rfl, rfl, rfl, by decide +kernel, rfl, by decide +kernel, by decide +kernel⟩
theorem okI34 {P : Program} {w : World} {K : PySem.W.Frag} {mg : Str → Option Value} {base : Heap} {f C : Addr} {fd : FuncData} {newId : String} {bmB : List Value} (F : Fun K "__init__" "TooManyRows.__init__" sI34 f fd) (T : Tail bmB) (O : OxC K C newId bmB)
    (no : PySem.W.findIn K (.ref C) "limit" = some none) : FnOk P w K mg base CX0 1 f fd ["self", "limit"] (spI1 C "limit") := by
  refine F.ok scI34 (fun vs H Q E h => ?_) (fun cdv A outer s H vs Q E hr h => ?_)
  · obtain ⟨a, v, rfl, _⟩ := h
    rfl
  · obtain ⟨a, v, rfl, ha, k⟩ := h
    exact ⟨_, pss_one (ps_xst (pv 0) (pv 1)), v, rfl, .ref a, rfl, a, C, newId, bmB, rfl, T, O, no, .inl ⟨ha, k⟩⟩
theorem kbI34 {K : PySem.W.Frag} {f : Addr} {fd : FuncData} (F : Fun K "__init__" "TooManyRows.__init__" sI34 f fd) : KBn K fd ["self", "limit"] 1 ["limit"] (fun us ws => us ++ ws) (fun vs zs => vs ++ zs) :=
  kbOf F (fun _ _ _ _ _ _ us ws h1 h2 => match us, ws, h1, h2 with | [_], [_], _, _ => rfl) fun r1 r2 => r1.append r2
theorem bdI34 {K : PySem.W.Frag} {f : Addr} {fd : FuncData} (F : Fun K "__init__" "TooManyRows.__init__" sI34 f fd) : Binds K fd ["self", "limit"] [] := F.binds fun _ _ _ _ _ _ us hl => match us, hl with | [_, _], _ => rfl
abbrev sI24 : Stmt := inClass (top 24) 0
theorem scI24 : FnScope ["self", "state", "one", "other"] ["self", "state", "one", "other"] (defScope sI24) := ⟨rfl, rfl, rfl, by decide +kernel, rfl, by decide +kernel, by decide +kernel⟩
theorem okI24 {P : Program} {w : World} {K : PySem.W.Frag} {mg : Str → Option Value} {base : Heap} {f C : Addr} {fd : FuncData} {newId : String} {bmB : List Value} (F : Fun K "__init__" "Heeds.__init__" sI24 f fd) (T : Tail bmB) (O : OxC K C newId bmB)
    (n1 : PySem.W.findIn K (.ref C) "state" = some none) (n2 : PySem.W.findIn K (.ref C) "one" = some none) (n3 : PySem.W.findIn K (.ref C) "other" = some none) : FnOk P w K mg base CX0 1 f fd ["self", "state", "one", "other"] (spI3 C "state" "one" "other") := by
  refine F.ok scI24 (fun vs H Q E h => ?_) (fun cdv A outer s H vs Q E hr h => ?_)
  · obtain ⟨a, x, y, z, rfl, _⟩ := h
    rfl
  · obtain ⟨a, x, y, z, rfl, ha, k⟩ := h
    refine ⟨_, pss_cons (ps_xst (pv 0) (pv 1)) (pss_cons (ps_xst (pv 0) (pv 2)) (pss_one (ps_xst (pv 0) (pv 3)))), x, rfl, .ref a, rfl, a, C, newId, bmB, rfl, T, O, n1, .inl ⟨ha, fun dx hd ne => ?_⟩⟩
    refine ⟨y, rfl, .ref a, rfl, a, C, newId, bmB, rfl, T, O, n2, .inr ⟨dx, [("state", x)], upd_same, (by rw [upd_ne ne, upd_same]), (by show 1 ≤ 900; omega), ?_⟩⟩
    refine ⟨z, rfl, .ref a, rfl, a, C, newId, bmB, rfl, T, O, n3, .inr ⟨dx, [("one", y), ("state", x)], (by rw [upd_ne (fun q => ne q.symm), upd_same]), upd_same, (by show 2 ≤ 900; omega), ?_⟩⟩
    exact k dx hd ne
theorem bdI24 {K : PySem.W.Frag} {f : Addr} {fd : FuncData} (F : Fun K "__init__" "Heeds.__init__" sI24 f fd) : Binds K fd ["self", "state", "one", "other"] [] := F.binds fun _ _ _ _ _ _ us hl => match us, hl with | [_, _, _, _], _ => rfl
/-- Heeds(other=.., state=.., one=..) -/
def gH {α : Type} (us ws : List α) : List α := match us, ws with
  | [a], [c, x, b] => [a, x, b, c]
  | _, _ => []
theorem gH_rel : ∀ {vs : List V} {us : List Value} {zs : List V} {ws : List Value}, Vals vs us → Vals zs ws → Vals (gH vs zs) (gH us ws) := by
  intro vs us zs ws r1 r2
  match vs, us, zs, ws, r1, r2 with
  | [_], [_], [_, _, _], [_, _, _], .cons a .nil, .cons c (.cons x (.cons b .nil)) => exact .cons a (.cons x (.cons b (.cons c .nil)))
  | [], _, _, _, .nil, _ => exact .nil
  | _ :: _ :: _, _, _, _, .cons _ (.cons _ _), _ => exact .nil
  | [_], _, [], _, .cons _ .nil, .nil => exact .nil
  | [_], _, [_], _, .cons _ .nil, .cons _ .nil => exact .nil
  | [_], _, [_, _], _, .cons _ .nil, .cons _ (.cons _ .nil) => exact .nil
  | [_], _, _ :: _ :: _ :: _ :: _, _, .cons _ .nil, .cons _ (.cons _ (.cons _ (.cons _ _))) => exact .nil
theorem kbI24 {K : PySem.W.Frag} {f : Addr} {fd : FuncData} (F : Fun K "__init__" "Heeds.__init__" sI24 f fd) : KBn K fd ["self", "state", "one", "other"] 1 ["other", "state", "one"] gH gH :=
  kbOf F (fun _ _ _ _ _ _ us ws h1 h2 => match us, ws, h1, h2 with | [_], [_, _, _], _, _ => rfl) gH_rel
end My
set_option Elab.async false
set_option maxRecDepth 100000
set_option maxHeartbeats 4000000
namespace My
open PySem L2

abbrev sSource : Stmt := top 71
abbrev sPull : Stmt := top 72
/-- what a source of numbers looks like: what is left of a cell, a seed, a step -/
structure SrcAt (H : Hp) (p : Addr) (A S c : Int) : Prop where
  at_ : H p = some (.lst [.int A, .int S, .int c])
  a0 : 0 ≤ A
  s0 : 0 ≤ S
  s1 : S < 2147483587
  c0 : 0 ≤ c
def spSource (K : PySem.W.Frag) : Sp := fun vs H Q _ => ∃ (a : Addr) (ns : List Int) (t : Int), vs = [.ref a, .int t] ∧ SqL K H a (ns.map V.int) ∧ ns.length ≤ 63 ∧ 0 ≤ t ∧ t ≤ 5 ∧
  ∀ (p : Addr) (H' : Hp) (A S : Int), H p = none → Same H H' → SrcAt H' p A S 0 → Q (.ref p) H'
def spPull : Sp := fun vs H Q _ => ∃ (p : Addr) (w A S c : Int), vs = [.ref p, .int w] ∧ 0 < w ∧ w.natAbs.log2 < 9000 ∧ SrcAt H p A S c ∧
  ∀ (d A' S' c' : Int) (H' : Hp), 0 ≤ d → d < w → Hs H H' [p] [(p, .lst [.int A', .int S', .int c'])] → SrcAt H' p A' S' c' → Q (.int d) H'
/-- the names of built-ins that the text leaves as they are -/
structure Blt (mg : Str → Option Value) : Prop where
  len : mg "len" = none
  int : mg "int" = none
  abs : mg "abs" = none
local macro_rules | `(tactic| walk_at "cond") => `(tactic| first
  | exact Or.inr ⟨by decide, by decide⟩ | exact Or.inl ⟨by decide, by decide⟩ | exact ⟨by decide, by decide, by decide⟩ | exact ⟨by decide, by decide⟩
  | (refine Or.inl ⟨?_, ?_⟩ <;> omega) | (refine Or.inr ⟨?_, ?_⟩ <;> omega)
  | (show (0 : Int) < _; omega))
local macro_rules | `(tactic| walk_at "mem") => `(tactic| first | exact List.Mem.head _ | exact List.Mem.tail _ (List.Mem.head _) | exact Put.head | (refine List.Mem.tail _ ?_; walk_at "mem") | (refine Put.tail ?_; walk_at "mem"))
local macro_rules | `(tactic| walk_at "st") => `(tactic| first
  | with_reducible refine g_seq ?_ | with_reducible refine g_asg ?_ | with_reducible refine g_name ?_ | ((with_reducible show tVar _ _ _ _); refine g_var rfl ?_) | with_reducible refine g_c ?_
  | with_reducible refine g_op ?_ | with_reducible refine g_test ?_ | with_reducible refine g_bl ?_
  | with_reducible refine g_cb ?_ | with_reducible refine g_cons ?_ | with_reducible refine g_nil ?_ | with_reducible refine g_tif ?_ | with_reducible refine g_ifs ?_ | with_reducible refine g_ret ?_
  | with_reducible refine g_drop ?_ | with_reducible refine g_next ?_
  | with_reducible refine g_i0 ?_ | ((with_reducible show rI _ _ _ _ _ _); refine g_i (by walk_at "cond") ?_) | with_reducible refine g_int ?_ | with_reducible refine g_abs ?_ | with_reducible refine g_or ?_
  | with_reducible refine g_and ?_ | with_reducible refine g_not ?_ | with_reducible refine g_lst ?_ | with_reducible refine g_tup ?_
  | with_reducible refine iteT ?_ | with_reducible refine iteF ?_ | with_reducible refine g_par ?_ | with_reducible refine g_two ?_ | with_reducible refine g_sub ?_
  | ((with_reducible show rIxL _ (V.ref _) (V.int _) _ _); refine g_ixM (by assumption) (by walk_at "mem") rfl rfl ?_)
  | ((with_reducible show rSetL (V.ref _) (V.int _) _ _ _); refine g_setM (by assumption) rfl (by walk_at "mem") fun _ _ => ?_))
section
variable {P : Program} {w : World} {K : PySem.W.Frag} {mg : Str → Option Value} {base : Heap}
theorem scSource : FnScope ["_law_cells", "_law_turn", "_law_cell", "_law_seed", "_law_each", "_law_low"] ["_law_cells", "_law_turn"] (defScope sSource) := ⟨rfl, rfl, rfl, by decide +kernel, rfl, by decide +kernel, by decide +kernel⟩
theorem ok_source {f : Addr} {fd : FuncData} (F : Fun K "_law_source" "_law_source" sSource f fd) (T : Blt mg) : FnOk P w K mg base CX0 1 f fd ["_law_cells", "_law_turn"] (spSource K) := by
  refine F.ok scSource (fun vs H Q E h => ?_) (fun cdv A outer s H vs Q E hr h => ?_)
  · obtain ⟨a, ns, t, rfl, _⟩ := h
    rfl
  · obtain ⟨a, ns, t, rfl, hS, hlen, t0, t5, k⟩ := h
    refine ⟨_, C8.pss_cut (ps_set (i := 2) scSource.nd rfl (Or.inl rfl) (pe_ifExp (pt_cmpR op_lt (pv 1) (pLen T.len (pv 0)) (nomark _)) (pInt T.int (pe_ix ix_list (pv 0) (pv 1) (fun _ _ => rfl))) pe_int))
      (pss_cons (ps_set (i := 3) scSource.nd rfl (Or.inl rfl) (pe_op op_add pe_int (pe_op op_mul pe_int (pv 1))))
      (pss_cons (ps_for PassesOwn.never rfl (pi_list (pv 0)) (pg_name (i := 4) scSource.nd rfl (Or.inl rfl))
        (pss_cons (ps_set (i := 5) scSource.nd rfl (Or.inl rfl) (pe_op op_mod (pInt T.int (pv 4)) pe_int))
        (pss_one (ps_set (i := 3) scSource.nd rfl (Or.inl rfl) (pe_op op_mod (pInt T.int (pe_op op_add (pe_op op_add (pe_op op_mul (pv 3) pe_int) (pe_op op_mul (pv 5) pe_int)) (pv 1))) pe_int)))))
      (C8.pss_cut (ps_if (pt_cmpR op_lt (pv 1) (pLen T.len (pv 0)) (nomark _))
        (pss_cons (ps_set (i := 5) scSource.nd rfl (Or.inl rfl) (pe_op op_mod (pInt T.int (pv 2)) pe_int))
        (pss_one (ps_set (i := 3) scSource.nd rfl (Or.inl rfl) (pe_op op_mod (pInt T.int (pe_op op_add (pv 3) (pe_op op_mul (pv 5) pe_int))) pe_int)))) pss_nil)
      (pss_one (ps_ret (pe_lst (pa_cons (pe_ifExp (PW.pt (pw_or (pt_cmpR op_lt (pv 2) pe_int (nomark _)) (pw_or1 (pt_cmpR op_ge (pv 2) (pe_op op_pow pe_int pe_int) (nomark _))))) (pAbs T.abs (pv 2)) pe_int)
        (pa_cons (pv 3) (pa_cons pe_int pa_nil))))))))), ?_⟩
    have n0 : (0 : Int) < 2147483587 := by decide
    have lm : (ns.map V.int).length = ns.length := List.length_map _
    refine ⟨fun σ' H' => ∃ z : Int, σ' = [some (.ref a), some (.int t), some (.int z), none, none, none] ∧ H' = H, ?_, ?_⟩
    · repeat walk_at "st"
      refine g_len (.inl hS) ?_
      repeat walk_at "st"
      refine g_ite (fun c => ?_) (fun c => ?_)
      · have ht : t.toNat < ns.length := by rw [lm] at c; omega
        repeat walk_at "st"
        refine g_ixL (v := .int ns[t.toNat]) hS ?_ ?_
        · have q : atI (ns.map V.int) ((t.toNat : Nat) : Int) = some (.int ns[t.toNat]) := atI_nat (by rw [List.getElem?_map, List.getElem?_eq_getElem ht] <;> rfl)
          have e : t = ((t.toNat : Nat) : Int) := by omega
          rw [← e] at q
          exact q
        repeat walk_at "st"
        exact ⟨_, rfl, rfl⟩
      · repeat walk_at "st"
        exact ⟨_, rfl, rfl⟩
    · rintro σ' H' ⟨z, rfl, rfl⟩
      repeat walk_at "st"
      refine ⟨_, rfl, a, rfl, ⟨_, hS⟩, for_list (K := K) (a := a) (xs := ns.map V.int) (fun i σ H2 => ∃ (S : Int) (v1 v2 : Option V), σ = [some (.ref a), some (.int t), some (.int z), some (.int S), v1, v2] ∧ H2 = H' ∧ 0 ≤ S ∧ S < 2147483587)
        ⟨_, none, none, rfl, rfl, by omega, by omega⟩ (fun i σ H2 _ ⟨_, _, _, _, e, _⟩ => by rw [e]; exact hS) ?_ ?_⟩
      · rintro i y σ H2 hi ⟨S, v1, v2, rfl, rfl, s0, s1⟩
        obtain ⟨n, rfl⟩ : ∃ n, y = V.int n := by
          rw [List.getElem?_map] at hi
          cases e : ns[i]? with
          | none =>
            rw [e] at hi
            cases hi
          | some n =>
            rw [e] at hi
            exact ⟨n, (Option.some.inj hi).symm⟩
        repeat walk_at "st"
        exact ⟨_, _, _, rfl, rfl, Int.emod_nonneg _ (by decide), Int.emod_lt_of_pos _ n0⟩
      · rintro σ H2 ⟨S, v1, v2, rfl, rfl, s0, s1⟩
        refine ⟨fun σ' H' => ∃ (S : Int) (v1 v2 : Option V), σ' = [some (.ref a), some (.int t), some (.int z), some (.int S), v1, v2] ∧ H' = H2 ∧ 0 ≤ S ∧ S < 2147483587, ?_, ?_⟩
        · repeat walk_at "st"
          refine g_len (.inl hS) ?_
          repeat walk_at "st"
          refine g_ite (fun c => ?_) (fun c => ?_)
          · repeat walk_at "st"
            exact ⟨_, _, _, rfl, rfl, Int.emod_nonneg _ (by decide), Int.emod_lt_of_pos _ n0⟩
          · repeat walk_at "st"
            exact ⟨_, _, _, rfl, rfl, s0, s1⟩
        · rintro σ' H' ⟨S, v1, v2, rfl, rfl, s0, s1⟩
          have fin : ∀ A : Int, 0 ≤ A → NewO .lst [V.int A, V.int S, V.int 0] H' Q := fun A hA =>
            ⟨(by show 3 ≤ sizeLine; decide), fun p hp => k p _ A S hp (Hs.start0.new hp).kept ⟨upd_same, hA, s0, s1, Int.le_refl 0⟩⟩
          repeat walk_at "st"
          refine g_ite (fun c => ?_) (fun c => ?_)
          · repeat walk_at "st"
            exact fin _ (by omega)
          · repeat walk_at "st"
            refine g_ite (fun c2 => ?_) (fun c2 => ?_)
            · repeat walk_at "st"
              exact fin _ (by omega)
            · repeat walk_at "st"
              exact fin 0 (Int.le_refl 0)
theorem scPull : FnScope ["_law_source_here", "_law_width", "_law_digit", "_law_seed", "_law_step"] ["_law_source_here", "_law_width"] (defScope sPull) := ⟨rfl, rfl, rfl, by decide +kernel, rfl, by decide +kernel, by decide +kernel⟩
theorem ok_pull {f : Addr} {fd : FuncData} (F : Fun K "_law_pull" "_law_pull" sPull f fd) (T : Blt mg) : FnOk P w K mg base CX0 1 f fd ["_law_source_here", "_law_width"] spPull := by
  refine F.ok scPull (fun vs H Q E h => ?_) (fun cdv A outer s H vs Q E hr h => ?_)
  · obtain ⟨a, ns, t, _, _, rfl, _⟩ := h
    rfl
  · obtain ⟨p, w, A, S, c, rfl, w0, w1, hs, k⟩ := h
    refine ⟨_, pss_cons (ps_asg (pe_op op_add (pe_ix ix_list (pv 0) pe_int (fun _ _ => rfl)) pe_int) (pg_sub (pv 0) pe_int set_list))
      (pss_cons (ps_if (pt_cmpR op_gt (pe_ix ix_list (pv 0) pe_int (fun _ _ => rfl)) pe_int (nomark _))
        (pss_cons (ps_set (i := 2) scPull.nd rfl (Or.inl rfl) (pe_op op_mod (pInt T.int (pe_ix ix_list (pv 0) pe_int (fun _ _ => rfl))) (pv 1)))
        (pss_cons (ps_asg (pe_op op_fdivW (pInt T.int (pe_ix ix_list (pv 0) pe_int (fun _ _ => rfl))) (pv 1)) (pg_sub (pv 0) pe_int set_list))
        (pss_one (ps_ret (pv 2))))) pss_nil)
      (pss_cons (ps_par rfl scPull.nd (i := 3) (j := 4) rfl rfl (by decide) rfl rfl (pa_cons (pInt T.int (pe_ix ix_list (pv 0) pe_int (fun _ _ => rfl))) (pa_cons (pInt T.int (pe_ix ix_list (pv 0) pe_int (fun _ _ => rfl))) pa_nil)) (by rfl))
      (pss_cons (ps_set (i := 3) scPull.nd rfl (Or.inl rfl) (pe_op op_mod (pInt T.int (pe_op op_add (pe_op op_add (pe_op op_mul (pv 3) (pe_op op_add (pe_op op_add (pv 3) pe_int) (pv 4))) (pe_op op_mul pe_int (pv 4))) pe_int)) pe_int))
      (pss_cons (ps_asg (pv 3) (pg_sub (pv 0) pe_int set_list))
      (pss_one (ps_ret (pe_op op_mod (pInt T.int (pe_op op_fdiv (pv 3) pe_int)) (pv 1)))))))), ?_⟩
    obtain ⟨e0, a0, s0, s1, c0⟩ := hs
    have h0 := Hs.start e0
    repeat walk_at "st"
    refine g_ite (fun cc => ?_) (fun cc => ?_)
    · repeat walk_at "st"
      refine g_i ⟨w0, w1⟩ ?_
      repeat walk_at "st"
      rename_i H2 h2
      exact k _ _ _ _ _ (Int.emod_nonneg _ (by omega)) (Int.emod_lt_of_pos _ w0) h2 ⟨h2.on _ List.mem_cons_self, Int.ediv_nonneg a0 (by omega), s0, s1, by omega⟩
    · repeat walk_at "st"
      rename_i H2 h2
      exact k _ _ _ _ _ (Int.emod_nonneg _ (by omega)) (Int.emod_lt_of_pos _ w0) h2 ⟨h2.on _ List.mem_cons_self, a0, Int.emod_nonneg _ (by decide), Int.emod_lt_of_pos _ (by decide), by omega⟩
end
end My
set_option Elab.async false
set_option maxRecDepth 100000
set_option maxHeartbeats 4000000
namespace My
open PySem PySem.Spec PyProof.Rows L2
local macro_rules | `(tactic| walk_at "cond") => `(tactic| first
  | exact Or.inr ⟨by decide, by decide⟩ | exact Or.inl ⟨by decide, by decide⟩ | exact ⟨by decide, by decide, by decide⟩ | exact ⟨by decide, by decide⟩
  | (refine Or.inl ⟨?_, ?_⟩ <;> omega) | (refine Or.inr ⟨?_, ?_⟩ <;> omega)
  | (show (0 : Int) < _; omega))
local macro_rules | `(tactic| walk_at "mem") => `(tactic| first | exact List.Mem.head _ | exact List.Mem.tail _ (List.Mem.head _) | exact Put.head | (refine List.Mem.tail _ ?_; walk_at "mem") | (refine Put.tail ?_; walk_at "mem"))
local macro_rules | `(tactic| walk_at "st") => `(tactic| first
  | with_reducible refine g_seq ?_ | with_reducible refine g_asg ?_ | with_reducible refine g_name ?_ | ((with_reducible show tVar _ _ _ _); refine g_var rfl ?_) | with_reducible refine g_c ?_
  | with_reducible refine g_op ?_ | with_reducible refine g_test ?_ | with_reducible refine g_bl ?_
  | with_reducible refine g_cb ?_ | with_reducible refine g_cons ?_ | with_reducible refine g_nil ?_ | with_reducible refine g_tif ?_ | with_reducible refine g_ifs ?_ | with_reducible refine g_ret ?_
  | with_reducible refine g_drop ?_ | with_reducible refine g_next ?_
  | with_reducible refine g_i0 ?_ | ((with_reducible show rI _ _ _ _ _ _); refine g_i (by walk_at "cond") ?_) | with_reducible refine g_int ?_ | with_reducible refine g_abs ?_ | with_reducible refine g_or ?_
  | with_reducible refine g_and ?_ | with_reducible refine g_not ?_ | with_reducible refine g_lst ?_ | with_reducible refine g_tup ?_
  | with_reducible refine iteT ?_ | with_reducible refine iteF ?_ | with_reducible refine g_par ?_ | with_reducible refine g_two ?_ | with_reducible refine g_sub ?_
  | ((with_reducible show rIxL _ (V.ref _) (V.int _) _ _); refine g_ixM (by assumption) (by walk_at "mem") rfl rfl ?_)
  | ((with_reducible show rSetL (V.ref _) (V.int _) _ _ _); refine g_setM (by assumption) rfl (by walk_at "mem") fun _ _ => ?_)
  | with_reducible refine g_xmk ?_ | with_reducible refine g_xmkK ?_
  | ((with_reducible show XNew _ (spI1 _ _) _ _ _); refine g_x1 (by assumption) fun _ _ _ _ => ?_)
  | ((with_reducible show XNewK _ _ (spI1 _ _) _ _ _ _); refine g_x1k (by assumption) fun _ _ _ _ => ?_)
  | ((with_reducible show XNew _ (spI3 _ _ _ _) _ _ _); refine g_x3 (by assumption) fun _ _ _ _ => ?_)
  | ((with_reducible show tXmk0 _ _ _ _); refine g_xmk0 (by assumption) fun _ _ _ => ?_)
  | ((with_reducible show NewO _ _ _ _); refine g_newo (by assumption) (by first | decide | simp) fun _ _ _ _ => ?_)
  | ((with_reducible show rCat (V.ref _) (V.ref _) _ _); refine g_cat (by assumption) (by walk_at "mem") (by walk_at "mem") (by first | decide | simp) fun _ _ _ _ => ?_))
/-- at a: an exception of the class at C, whose one field holds v -/
def ExAt (H : Hp) (f : Str) (v : V) (u : V) (C : Addr) : Prop := ∃ a d, u = .ref a ∧ H a = some (exo a C (some d)) ∧ H d = some (exd d [(f, v)])
def spMk (Cs : List Addr) (f : Str) : Sp := fun vs H Q _ => ∃ v, vs = [v] ∧ ∀ p us H', H p = none → Same H H' → H' p = some (.lst us) → Paired (ExAt H' f v) us Cs → Q (.ref p) H'
def Ex1 (P : Program) (w : World) (K : PySem.W.Frag) (mg : Str → Option Value) (base : Heap) (x f : Str) (C : Addr) : Prop := ∃ fI B newId initId bmB fd, XCls P w K mg base x C fI B newId initId bmB ["self", f] (spI1 C f) fd ∧ KBn K fd ["self", f] 1 [f] (fun us ws => us ++ ws) (fun vs zs => vs ++ zs) ∧ PySem.W.findIn K (.ref C) f = some none
abbrev s_law_tops : Stmt := top 76
theorem sc__law_tops : FnScope ["_law_thing", "_law_made"] ["_law_thing"] (defScope s_law_tops) := ⟨rfl, rfl, rfl, by decide +kernel, rfl, by decide +kernel, by decide +kernel⟩
theorem ok_law_tops {P : Program} {w : World} {K : PySem.W.Frag} {mg : Str → Option Value} {base : Heap} {f CTooManyKinds CTooManyStates CTooManyRows : Addr} {fd : FuncData} (F : Fun K "_law_tops" "_law_tops" s_law_tops f fd)
    (eTooManyKinds : Ex1 P w K mg base "TooManyKinds" "limit" CTooManyKinds) (eTooManyStates : Ex1 P w K mg base "TooManyStates" "limit" CTooManyStates) (eTooManyRows : Ex1 P w K mg base "TooManyRows" "limit" CTooManyRows) : FnOk P w K mg base CX0 3 f fd ["_law_thing"] (spMk [CTooManyKinds, CTooManyStates, CTooManyRows, CTooManyKinds, CTooManyStates, CTooManyRows] "limit") := by
  refine F.ok sc__law_tops (fun vs H Q E h => ?_) (fun cdv A outer s H vs Q E hr h => ?_)
  · obtain ⟨v, rfl, _⟩ := h
    rfl
  · obtain ⟨v, rfl, k⟩ := h
    obtain ⟨fITooManyKinds, BTooManyKinds, nwTooManyKinds, niTooManyKinds, bmTooManyKinds, fdTooManyKinds, xTooManyKinds, kTooManyKinds, nTooManyKinds⟩ := eTooManyKinds
    obtain ⟨fITooManyStates, BTooManyStates, nwTooManyStates, niTooManyStates, bmTooManyStates, fdTooManyStates, xTooManyStates, kTooManyStates, nTooManyStates⟩ := eTooManyStates
    obtain ⟨fITooManyRows, BTooManyRows, nwTooManyRows, niTooManyRows, bmTooManyRows, fdTooManyRows, xTooManyRows, kTooManyRows, nTooManyRows⟩ := eTooManyRows
    refine ⟨_, (pss_cons (ps_set (i := 1) sc__law_tops.nd rfl (Or.inl rfl) (pe_lst (pa_cons (pX xTooManyKinds hr (pa_cons (pv 0) pa_nil)) (pa_cons (pX xTooManyStates hr (pa_cons (pv 0) pa_nil)) (pa_cons (pX xTooManyRows hr (pa_cons (pv 0) pa_nil)) pa_nil)))))
      (pss_one (ps_ret (pe_op op_cat (pv 1) (pe_lst (pa_cons (pXk xTooManyKinds kTooManyKinds hr (pk_cons (pv 0) pk_nil)) (pa_cons (pXk xTooManyStates kTooManyStates hr (pk_cons (pv 0) pk_nil)) (pa_cons (pXk xTooManyRows kTooManyRows hr (pk_cons (pv 0) pk_nil)) pa_nil)))))))), ?_⟩
    have h0 : Hs H H [] [] := Hs.start0
    repeat walk_at "st"
    rename_i p H1 n1 h1
    exact k p _ H1 (h1.nw _ List.mem_cons_self fun z => nomatch z) h1.kept (h1.on _ List.mem_cons_self) (by repeat (first | exact Paired.nil | refine Paired.cons ⟨_, _, rfl, h1.mem (by walk_at "mem"), h1.mem (by walk_at "mem")⟩ ?_))
end My
set_option Elab.async false
set_option maxRecDepth 100000
set_option maxHeartbeats 4000000
namespace My
open PySem PySem.Spec PyProof.Rows L2
local macro_rules | `(tactic| walk_at "cond") => `(tactic| first
  | exact Or.inr ⟨by decide, by decide⟩ | exact Or.inl ⟨by decide, by decide⟩ | exact ⟨by decide, by decide, by decide⟩ | exact ⟨by decide, by decide⟩
  | (refine Or.inl ⟨?_, ?_⟩ <;> omega) | (refine Or.inr ⟨?_, ?_⟩ <;> omega)
  | (show (0 : Int) < _; omega))
local macro_rules | `(tactic| walk_at "mem") => `(tactic| first | exact List.Mem.head _ | exact List.Mem.tail _ (List.Mem.head _) | exact Put.head | (refine List.Mem.tail _ ?_; walk_at "mem") | (refine Put.tail ?_; walk_at "mem"))
local macro_rules | `(tactic| walk_at "st") => `(tactic| first
  | with_reducible refine g_seq ?_ | with_reducible refine g_asg ?_ | with_reducible refine g_name ?_ | ((with_reducible show tVar _ _ _ _); refine g_var rfl ?_) | with_reducible refine g_c ?_
  | with_reducible refine g_op ?_ | with_reducible refine g_test ?_ | with_reducible refine g_bl ?_
  | with_reducible refine g_cb ?_ | with_reducible refine g_cons ?_ | with_reducible refine g_nil ?_ | with_reducible refine g_tif ?_ | with_reducible refine g_ifs ?_ | with_reducible refine g_ret ?_
  | with_reducible refine g_drop ?_ | with_reducible refine g_next ?_
  | with_reducible refine g_i0 ?_ | ((with_reducible show rI _ _ _ _ _ _); refine g_i (by walk_at "cond") ?_) | with_reducible refine g_int ?_ | with_reducible refine g_abs ?_ | with_reducible refine g_or ?_
  | with_reducible refine g_and ?_ | with_reducible refine g_not ?_ | with_reducible refine g_lst ?_ | with_reducible refine g_tup ?_
  | with_reducible refine iteT ?_ | with_reducible refine iteF ?_ | with_reducible refine g_par ?_ | with_reducible refine g_two ?_ | with_reducible refine g_sub ?_
  | ((with_reducible show rIxL _ (V.ref _) (V.int _) _ _); refine g_ixM (by assumption) (by walk_at "mem") rfl rfl ?_)
  | ((with_reducible show rSetL (V.ref _) (V.int _) _ _ _); refine g_setM (by assumption) rfl (by walk_at "mem") fun _ _ => ?_)
  | with_reducible refine g_xmk ?_ | with_reducible refine g_xmkK ?_
  | ((with_reducible show XNew _ (spI1 _ _) _ _ _); refine g_x1 (by assumption) fun _ _ _ _ => ?_)
  | ((with_reducible show XNewK _ _ (spI1 _ _) _ _ _ _); refine g_x1k (by assumption) fun _ _ _ _ => ?_)
  | ((with_reducible show XNew _ (spI3 _ _ _ _) _ _ _); refine g_x3 (by assumption) fun _ _ _ _ => ?_)
  | ((with_reducible show tXmk0 _ _ _ _); refine g_xmk0 (by assumption) fun _ _ _ => ?_)
  | ((with_reducible show NewO _ _ _ _); refine g_newo (by assumption) (by first | decide | simp) fun _ _ _ _ => ?_)
  | ((with_reducible show rCat (V.ref _) (V.ref _) _ _); refine g_cat (by assumption) (by walk_at "mem") (by walk_at "mem") (by first | decide | simp) fun _ _ _ _ => ?_))
abbrev s_law_values : Stmt := top 73
theorem sc__law_values : FnScope ["_law_thing", "_law_made", "_law_more"] ["_law_thing"] (defScope s_law_values) := ⟨rfl, rfl, rfl, by decide +kernel, rfl, by decide +kernel, by decide +kernel⟩
theorem ok_law_values {P : Program} {w : World} {K : PySem.W.Frag} {mg : Str → Option Value} {base : Heap} {f CNotALoad CNotAHandler CNotAWeb CInvalidName CInvalidText CInvalidNumber CInvalidRest CInvalidChoice CInvalidLine CUnknownKind : Addr} {fd : FuncData} (F : Fun K "_law_values" "_law_values" s_law_values f fd)
    (eNotALoad : Ex1 P w K mg base "NotALoad" "value" CNotALoad) (eNotAHandler : Ex1 P w K mg base "NotAHandler" "value" CNotAHandler) (eNotAWeb : Ex1 P w K mg base "NotAWeb" "value" CNotAWeb) (eInvalidName : Ex1 P w K mg base "InvalidName" "value" CInvalidName) (eInvalidText : Ex1 P w K mg base "InvalidText" "value" CInvalidText) (eInvalidNumber : Ex1 P w K mg base "InvalidNumber" "value" CInvalidNumber) (eInvalidRest : Ex1 P w K mg base "InvalidRest" "value" CInvalidRest) (eInvalidChoice : Ex1 P w K mg base "InvalidChoice" "value" CInvalidChoice) (eInvalidLine : Ex1 P w K mg base "InvalidLine" "value" CInvalidLine) (eUnknownKind : Ex1 P w K mg base "UnknownKind" "value" CUnknownKind) : FnOk P w K mg base CX0 3 f fd ["_law_thing"] (spMk [CNotALoad, CNotAHandler, CNotAWeb, CInvalidName, CInvalidText, CInvalidNumber, CInvalidRest, CInvalidChoice, CInvalidLine, CUnknownKind, CNotALoad, CNotAHandler, CNotAWeb, CInvalidName, CInvalidText, CInvalidNumber, CInvalidRest, CInvalidChoice, CInvalidLine, CUnknownKind] "value") := by
  refine F.ok sc__law_values (fun vs H Q E h => ?_) (fun cdv A outer s H vs Q E hr h => ?_)
  · obtain ⟨v, rfl, _⟩ := h
    rfl
  · obtain ⟨v, rfl, k⟩ := h
    obtain ⟨fINotALoad, BNotALoad, nwNotALoad, niNotALoad, bmNotALoad, fdNotALoad, xNotALoad, kNotALoad, nNotALoad⟩ := eNotALoad
    obtain ⟨fINotAHandler, BNotAHandler, nwNotAHandler, niNotAHandler, bmNotAHandler, fdNotAHandler, xNotAHandler, kNotAHandler, nNotAHandler⟩ := eNotAHandler
    obtain ⟨fINotAWeb, BNotAWeb, nwNotAWeb, niNotAWeb, bmNotAWeb, fdNotAWeb, xNotAWeb, kNotAWeb, nNotAWeb⟩ := eNotAWeb
    obtain ⟨fIInvalidName, BInvalidName, nwInvalidName, niInvalidName, bmInvalidName, fdInvalidName, xInvalidName, kInvalidName, nInvalidName⟩ := eInvalidName
    obtain ⟨fIInvalidText, BInvalidText, nwInvalidText, niInvalidText, bmInvalidText, fdInvalidText, xInvalidText, kInvalidText, nInvalidText⟩ := eInvalidText
    obtain ⟨fIInvalidNumber, BInvalidNumber, nwInvalidNumber, niInvalidNumber, bmInvalidNumber, fdInvalidNumber, xInvalidNumber, kInvalidNumber, nInvalidNumber⟩ := eInvalidNumber
    obtain ⟨fIInvalidRest, BInvalidRest, nwInvalidRest, niInvalidRest, bmInvalidRest, fdInvalidRest, xInvalidRest, kInvalidRest, nInvalidRest⟩ := eInvalidRest
    obtain ⟨fIInvalidChoice, BInvalidChoice, nwInvalidChoice, niInvalidChoice, bmInvalidChoice, fdInvalidChoice, xInvalidChoice, kInvalidChoice, nInvalidChoice⟩ := eInvalidChoice
    obtain ⟨fIInvalidLine, BInvalidLine, nwInvalidLine, niInvalidLine, bmInvalidLine, fdInvalidLine, xInvalidLine, kInvalidLine, nInvalidLine⟩ := eInvalidLine
    obtain ⟨fIUnknownKind, BUnknownKind, nwUnknownKind, niUnknownKind, bmUnknownKind, fdUnknownKind, xUnknownKind, kUnknownKind, nUnknownKind⟩ := eUnknownKind
    refine ⟨_, (pss_cons (ps_set (i := 1) sc__law_values.nd rfl (Or.inl rfl) (pe_lst (pa_cons (pX xNotALoad hr (pa_cons (pv 0) pa_nil)) (pa_cons (pX xNotAHandler hr (pa_cons (pv 0) pa_nil)) (pa_cons (pX xNotAWeb hr (pa_cons (pv 0) pa_nil)) (pa_cons (pX xInvalidName hr (pa_cons (pv 0) pa_nil)) pa_nil))))))
      (pss_cons (ps_set (i := 1) sc__law_values.nd rfl (Or.inl rfl) (pe_op op_cat (pv 1) (pe_lst (pa_cons (pX xInvalidText hr (pa_cons (pv 0) pa_nil)) (pa_cons (pX xInvalidNumber hr (pa_cons (pv 0) pa_nil)) (pa_cons (pX xInvalidRest hr (pa_cons (pv 0) pa_nil)) pa_nil))))))
      (pss_cons (ps_set (i := 1) sc__law_values.nd rfl (Or.inl rfl) (pe_op op_cat (pv 1) (pe_lst (pa_cons (pX xInvalidChoice hr (pa_cons (pv 0) pa_nil)) (pa_cons (pX xInvalidLine hr (pa_cons (pv 0) pa_nil)) (pa_cons (pX xUnknownKind hr (pa_cons (pv 0) pa_nil)) pa_nil))))))
      (pss_cons (ps_set (i := 2) sc__law_values.nd rfl (Or.inl rfl) (pe_lst (pa_cons (pXk xNotALoad kNotALoad hr (pk_cons (pv 0) pk_nil)) (pa_cons (pXk xNotAHandler kNotAHandler hr (pk_cons (pv 0) pk_nil)) (pa_cons (pXk xNotAWeb kNotAWeb hr (pk_cons (pv 0) pk_nil)) pa_nil)))))
      (pss_cons (ps_set (i := 2) sc__law_values.nd rfl (Or.inl rfl) (pe_op op_cat (pv 2) (pe_lst (pa_cons (pXk xInvalidName kInvalidName hr (pk_cons (pv 0) pk_nil)) (pa_cons (pXk xInvalidText kInvalidText hr (pk_cons (pv 0) pk_nil)) (pa_cons (pXk xInvalidNumber kInvalidNumber hr (pk_cons (pv 0) pk_nil)) pa_nil))))))
      (pss_cons (ps_set (i := 2) sc__law_values.nd rfl (Or.inl rfl) (pe_op op_cat (pv 2) (pe_lst (pa_cons (pXk xInvalidRest kInvalidRest hr (pk_cons (pv 0) pk_nil)) (pa_cons (pXk xInvalidChoice kInvalidChoice hr (pk_cons (pv 0) pk_nil)) (pa_cons (pXk xInvalidLine kInvalidLine hr (pk_cons (pv 0) pk_nil)) pa_nil))))))
      (pss_cons (ps_set (i := 2) sc__law_values.nd rfl (Or.inl rfl) (pe_op op_cat (pv 2) (pe_lst (pa_cons (pXk xUnknownKind kUnknownKind hr (pk_cons (pv 0) pk_nil)) pa_nil))))
      (pss_one (ps_ret (pe_op op_cat (pv 1) (pv 2))))))))))), ?_⟩
    have h0 : Hs H H [] [] := Hs.start0
    repeat walk_at "st"
    rename_i p H1 n1 h1
    exact k p _ H1 (h1.nw _ List.mem_cons_self fun z => nomatch z) h1.kept (h1.on _ List.mem_cons_self) (by repeat (first | exact Paired.nil | refine Paired.cons ⟨_, _, rfl, h1.mem (by walk_at "mem"), h1.mem (by walk_at "mem")⟩ ?_))
abbrev s_law_indexes : Stmt := top 74
theorem sc__law_indexes : FnScope ["_law_thing", "_law_made", "_law_more"] ["_law_thing"] (defScope s_law_indexes) := ⟨rfl, rfl, rfl, by decide +kernel, rfl, by decide +kernel, by decide +kernel⟩
theorem ok_law_indexes {P : Program} {w : World} {K : PySem.W.Frag} {mg : Str → Option Value} {base : Heap} {f CInvalidPairs CInvalidKinds CInvalidRows CInvalidNames CInvalidHandlers CInvalidEntries CInvalidIndexes CInvalidTerms CInvalidDeeds : Addr} {fd : FuncData} (F : Fun K "_law_indexes" "_law_indexes" s_law_indexes f fd)
    (eInvalidPairs : Ex1 P w K mg base "InvalidPairs" "index" CInvalidPairs) (eInvalidKinds : Ex1 P w K mg base "InvalidKinds" "index" CInvalidKinds) (eInvalidRows : Ex1 P w K mg base "InvalidRows" "index" CInvalidRows) (eInvalidNames : Ex1 P w K mg base "InvalidNames" "index" CInvalidNames) (eInvalidHandlers : Ex1 P w K mg base "InvalidHandlers" "index" CInvalidHandlers) (eInvalidEntries : Ex1 P w K mg base "InvalidEntries" "index" CInvalidEntries) (eInvalidIndexes : Ex1 P w K mg base "InvalidIndexes" "index" CInvalidIndexes) (eInvalidTerms : Ex1 P w K mg base "InvalidTerms" "index" CInvalidTerms) (eInvalidDeeds : Ex1 P w K mg base "InvalidDeeds" "index" CInvalidDeeds) : FnOk P w K mg base CX0 3 f fd ["_law_thing"] (spMk [CInvalidPairs, CInvalidKinds, CInvalidRows, CInvalidNames, CInvalidHandlers, CInvalidEntries, CInvalidIndexes, CInvalidTerms, CInvalidDeeds, CInvalidPairs, CInvalidKinds, CInvalidRows, CInvalidNames, CInvalidHandlers, CInvalidEntries, CInvalidIndexes, CInvalidTerms, CInvalidDeeds] "index") := by
  refine F.ok sc__law_indexes (fun vs H Q E h => ?_) (fun cdv A outer s H vs Q E hr h => ?_)
  · obtain ⟨v, rfl, _⟩ := h
    rfl
  · obtain ⟨v, rfl, k⟩ := h
    obtain ⟨fIInvalidPairs, BInvalidPairs, nwInvalidPairs, niInvalidPairs, bmInvalidPairs, fdInvalidPairs, xInvalidPairs, kInvalidPairs, nInvalidPairs⟩ := eInvalidPairs
    obtain ⟨fIInvalidKinds, BInvalidKinds, nwInvalidKinds, niInvalidKinds, bmInvalidKinds, fdInvalidKinds, xInvalidKinds, kInvalidKinds, nInvalidKinds⟩ := eInvalidKinds
    obtain ⟨fIInvalidRows, BInvalidRows, nwInvalidRows, niInvalidRows, bmInvalidRows, fdInvalidRows, xInvalidRows, kInvalidRows, nInvalidRows⟩ := eInvalidRows
    obtain ⟨fIInvalidNames, BInvalidNames, nwInvalidNames, niInvalidNames, bmInvalidNames, fdInvalidNames, xInvalidNames, kInvalidNames, nInvalidNames⟩ := eInvalidNames
    obtain ⟨fIInvalidHandlers, BInvalidHandlers, nwInvalidHandlers, niInvalidHandlers, bmInvalidHandlers, fdInvalidHandlers, xInvalidHandlers, kInvalidHandlers, nInvalidHandlers⟩ := eInvalidHandlers
    obtain ⟨fIInvalidEntries, BInvalidEntries, nwInvalidEntries, niInvalidEntries, bmInvalidEntries, fdInvalidEntries, xInvalidEntries, kInvalidEntries, nInvalidEntries⟩ := eInvalidEntries
    obtain ⟨fIInvalidIndexes, BInvalidIndexes, nwInvalidIndexes, niInvalidIndexes, bmInvalidIndexes, fdInvalidIndexes, xInvalidIndexes, kInvalidIndexes, nInvalidIndexes⟩ := eInvalidIndexes
    obtain ⟨fIInvalidTerms, BInvalidTerms, nwInvalidTerms, niInvalidTerms, bmInvalidTerms, fdInvalidTerms, xInvalidTerms, kInvalidTerms, nInvalidTerms⟩ := eInvalidTerms
    obtain ⟨fIInvalidDeeds, BInvalidDeeds, nwInvalidDeeds, niInvalidDeeds, bmInvalidDeeds, fdInvalidDeeds, xInvalidDeeds, kInvalidDeeds, nInvalidDeeds⟩ := eInvalidDeeds
    refine ⟨_, (pss_cons (ps_set (i := 1) sc__law_indexes.nd rfl (Or.inl rfl) (pe_lst (pa_cons (pX xInvalidPairs hr (pa_cons (pv 0) pa_nil)) (pa_cons (pX xInvalidKinds hr (pa_cons (pv 0) pa_nil)) (pa_cons (pX xInvalidRows hr (pa_cons (pv 0) pa_nil)) pa_nil)))))
      (pss_cons (ps_set (i := 1) sc__law_indexes.nd rfl (Or.inl rfl) (pe_op op_cat (pv 1) (pe_lst (pa_cons (pX xInvalidNames hr (pa_cons (pv 0) pa_nil)) (pa_cons (pX xInvalidHandlers hr (pa_cons (pv 0) pa_nil)) (pa_cons (pX xInvalidEntries hr (pa_cons (pv 0) pa_nil)) pa_nil))))))
      (pss_cons (ps_set (i := 1) sc__law_indexes.nd rfl (Or.inl rfl) (pe_op op_cat (pv 1) (pe_lst (pa_cons (pX xInvalidIndexes hr (pa_cons (pv 0) pa_nil)) (pa_cons (pX xInvalidTerms hr (pa_cons (pv 0) pa_nil)) (pa_cons (pX xInvalidDeeds hr (pa_cons (pv 0) pa_nil)) pa_nil))))))
      (pss_cons (ps_set (i := 2) sc__law_indexes.nd rfl (Or.inl rfl) (pe_lst (pa_cons (pXk xInvalidPairs kInvalidPairs hr (pk_cons (pv 0) pk_nil)) (pa_cons (pXk xInvalidKinds kInvalidKinds hr (pk_cons (pv 0) pk_nil)) (pa_cons (pXk xInvalidRows kInvalidRows hr (pk_cons (pv 0) pk_nil)) pa_nil)))))
      (pss_cons (ps_set (i := 2) sc__law_indexes.nd rfl (Or.inl rfl) (pe_op op_cat (pv 2) (pe_lst (pa_cons (pXk xInvalidNames kInvalidNames hr (pk_cons (pv 0) pk_nil)) (pa_cons (pXk xInvalidHandlers kInvalidHandlers hr (pk_cons (pv 0) pk_nil)) pa_nil)))))
      (pss_cons (ps_set (i := 2) sc__law_indexes.nd rfl (Or.inl rfl) (pe_op op_cat (pv 2) (pe_lst (pa_cons (pXk xInvalidEntries kInvalidEntries hr (pk_cons (pv 0) pk_nil)) (pa_cons (pXk xInvalidIndexes kInvalidIndexes hr (pk_cons (pv 0) pk_nil)) pa_nil)))))
      (pss_cons (ps_set (i := 2) sc__law_indexes.nd rfl (Or.inl rfl) (pe_op op_cat (pv 2) (pe_lst (pa_cons (pXk xInvalidTerms kInvalidTerms hr (pk_cons (pv 0) pk_nil)) (pa_cons (pXk xInvalidDeeds kInvalidDeeds hr (pk_cons (pv 0) pk_nil)) pa_nil)))))
      (pss_one (ps_ret (pe_op op_cat (pv 1) (pv 2))))))))))), ?_⟩
    have h0 : Hs H H [] [] := Hs.start0
    repeat walk_at "st"
    rename_i p H1 n1 h1
    exact k p _ H1 (h1.nw _ List.mem_cons_self fun z => nomatch z) h1.kept (h1.on _ List.mem_cons_self) (by repeat (first | exact Paired.nil | refine Paired.cons ⟨_, _, rfl, h1.mem (by walk_at "mem"), h1.mem (by walk_at "mem")⟩ ?_))
end My
set_option Elab.async false
set_option maxRecDepth 100000
set_option maxHeartbeats 4000000
namespace My
open PySem PySem.Spec PyProof.Rows L2
local macro_rules | `(tactic| walk_at "cond") => `(tactic| first
  | exact Or.inr ⟨by decide, by decide⟩ | exact Or.inl ⟨by decide, by decide⟩ | exact ⟨by decide, by decide, by decide⟩ | exact ⟨by decide, by decide⟩
  | (refine Or.inl ⟨?_, ?_⟩ <;> omega) | (refine Or.inr ⟨?_, ?_⟩ <;> omega)
  | (show (0 : Int) < _; omega))
local macro_rules | `(tactic| walk_at "mem") => `(tactic| first | exact List.Mem.head _ | exact List.Mem.tail _ (List.Mem.head _) | exact Put.head | (refine List.Mem.tail _ ?_; walk_at "mem") | (refine Put.tail ?_; walk_at "mem"))
local macro_rules | `(tactic| walk_at "st") => `(tactic| first
  | with_reducible refine g_seq ?_ | with_reducible refine g_asg ?_ | with_reducible refine g_name ?_ | ((with_reducible show tVar _ _ _ _); refine g_var rfl ?_) | with_reducible refine g_c ?_
  | with_reducible refine g_op ?_ | with_reducible refine g_test ?_ | with_reducible refine g_bl ?_
  | with_reducible refine g_cb ?_ | with_reducible refine g_cons ?_ | with_reducible refine g_nil ?_ | with_reducible refine g_tif ?_ | with_reducible refine g_ifs ?_ | with_reducible refine g_ret ?_
  | with_reducible refine g_drop ?_ | with_reducible refine g_next ?_
  | with_reducible refine g_i0 ?_ | ((with_reducible show rI _ _ _ _ _ _); refine g_i (by walk_at "cond") ?_) | with_reducible refine g_int ?_ | with_reducible refine g_abs ?_ | with_reducible refine g_or ?_
  | with_reducible refine g_and ?_ | with_reducible refine g_not ?_ | with_reducible refine g_lst ?_ | with_reducible refine g_tup ?_
  | with_reducible refine iteT ?_ | with_reducible refine iteF ?_ | with_reducible refine g_par ?_ | with_reducible refine g_two ?_ | with_reducible refine g_sub ?_
  | ((with_reducible show rIxL _ (V.ref _) (V.int _) _ _); refine g_ixM (by assumption) (by walk_at "mem") rfl rfl ?_)
  | ((with_reducible show rSetL (V.ref _) (V.int _) _ _ _); refine g_setM (by assumption) rfl (by walk_at "mem") fun _ _ => ?_)
  | with_reducible refine g_xmk ?_ | with_reducible refine g_xmkK ?_
  | ((with_reducible show XNew _ (spI1 _ _) _ _ _); refine g_x1 (by assumption) fun _ _ _ _ => ?_)
  | ((with_reducible show XNewK _ _ (spI1 _ _) _ _ _ _); refine g_x1k (by assumption) fun _ _ _ _ => ?_)
  | ((with_reducible show XNew _ (spI3 _ _ _ _) _ _ _); refine g_x3 (by assumption) fun _ _ _ _ => ?_)
  | ((with_reducible show tXmk0 _ _ _ _); refine g_xmk0 (by assumption) fun _ _ _ => ?_)
  | ((with_reducible show NewO _ _ _ _); refine g_newo (by assumption) (by first | decide | simp) fun _ _ _ _ => ?_)
  | ((with_reducible show rCat (V.ref _) (V.ref _) _ _); refine g_cat (by assumption) (by walk_at "mem") (by walk_at "mem") (by first | decide | simp) fun _ _ _ _ => ?_))
  
/-- the names of the classes that the text leaves as they are -/
structure BltX (mg : Str → Option Value) : Prop where
  isi : mg "isinstance" = none
  ValueError : mg "ValueError" = none
  LookupError : mg "LookupError" = none
  ArithmeticError : mg "ArithmeticError" = none
theorem prd {α β : Type} {F : α → β → Prop} {a : α} {as : List α} {bs : List β} (h : Paired F (a :: as) bs) : ∃ b bs', bs = b :: bs' ∧ F a b ∧ Paired F as bs' := by
  cases h with
  | cons h t => exact ⟨_, _, rfl, h, t⟩
theorem prd0 {α β : Type} {F : α → β → Prop} {bs : List β} (h : Paired F [] bs) : bs = [] := by
  cases h
  rfl
/-- at a stands an exception of the class at C, with a dict or without -/
structure IsE (K : PySem.W.Frag) (H : Hp) (a C : Addr) : Prop where
  O : ∃ newId bmB, OxC K C newId bmB
  J : OxI K C
  at_ : ∃ d, H a = some (exo a C d) ∧ (d = none ∨ ∃ dx fs, d = some dx ∧ H dx = some (exd dx fs))
theorem IsE.same {K : PySem.W.Frag} {H H' : Hp} {a C : Addr} (h : IsE K H a C) (e : Same H H') : IsE K H' a C := by
  obtain ⟨O, J, d, h1, h2⟩ := h
  refine ⟨O, J, d, e _ _ h1, ?_⟩
  rcases h2 with h2 | ⟨dx, fs, e1, e2⟩
  · exact .inl h2
  · exact .inr ⟨dx, fs, e1, e _ _ e2⟩
theorem g_isX {K : PySem.W.Frag} {H0 H : Hp} {L : List (Addr × HO)} {Q : VK} {a C : Addr} {c : V} {u : Value} {b : Bool} (cv : ClsV c u) (G : OxG K) (hE : IsE K H0 a C) (hs : Hs H0 H [] L) (k : PySem.W.kitOne K (.ref C) u = some b) (h : Q (.bl b) H) : rIsX K [.ref a, c] H Q := by
  obtain ⟨⟨newId, bmB, O⟩, J, d, h1, h2⟩ := hE.same hs.kept
  exact ⟨a, C, d, newId, bmB, c, u, b, rfl, O, J, G, cv, h1, h2, k, h⟩
local macro_rules | `(tactic| walk_at "is") => `(tactic| ((with_reducible show rIsX _ [V.ref _, _] _ _); refine g_isX (by first | exact ClsV.own _ | exact ClsV.ty _) (by assumption) (by assumption) (by assumption) (by assumption) ?_))
theorem pG {X : Cx} {x : Str} {C : Addr} {p : Pos} (m : X.mg x = some (.ref C)) (hg : Gl X x := by rfl) (hdb : (x == ("__debug__" : Str)) = false := by decide) : PE X (.Name x p) (tC (.ref C)) := pe_glob (v := .ref C) hg m rfl hdb
theorem g_bmL {K : PySem.W.Frag} {H0 H : Hp} {O : List Addr} {L : List (Addr × HO)} {p : Addr} {xs : List V} {R : Prop} (hs : Hs H0 H O L) (m : (p, .lst xs) ∈ L) (h : R) : tyV K "list" (.ref p) H ∧ R := ⟨Or.inl ⟨rfl, _, SqL.of (hs.mem m)⟩, h⟩
theorem g_bm {K : PySem.W.Frag} {T : String} {r : V → List V → Hp → VK → Prop} {to : TE} {t : TA} {σ : L2.St} {H : Hp} {Q : VK} (h : to σ H fun x H1 => tyV K T x H1 ∧ t σ H1 fun xs H2 => r x xs H2 Q) : tBM K T r to t σ H Q := h
theorem pIs {X : Cx} {a b : Expr} {ta tb : TE} {p pos : Pos} (T : BltX X.mg) (ha : PE X a ta) (hb : PE X b tb) (hg : Gl X "isinstance" := by rfl) (hs : starEach [a, b] X.env = (false, eval a X.env) :: starEach [b] X.env := by rfl) (hs2 : starEach [b] X.env = (false, eval b X.env) :: starEach [] X.env := by rfl)
    (hpl : (backTo pos (starEach [b] X.env)).any (·.1) = false := by rfl) : PE X (.Call (.Name "isinstance" p) [a, b] [] pos) (tCB (rIsX X.K) (tCons ta (tCons tb tNil))) :=
  pe_callB call_isX hg T.isi PyProof.Rows.boot_isinstance (pa_cons ha (pa_cons hb pa_nil hs2) hs) (he := hs) (hpl := hpl)
def rCntB (K : PySem.W.Frag) : V → List V → Hp → VK → Prop := fun x xs H Q => ∃ (p : Addr) (bs : List Bool) (k : Bool), x = .ref p ∧ xs = [.bl k] ∧ SqL K H p (bs.map V.bl) ∧ Q (.int (bs.count k : Nat)) H
theorem valsB : ∀ {bs : List Bool} {us : List Value}, Vals (bs.map V.bl) us → us = bs.map Value.bool
  | [], _, .nil => rfl
  | b :: bs, _, .cons r t => by
    cases (show _ = Value.bool b from r)
    rw [valsB t]
    rfl
theorem readsB (h : Heap) : ∀ bs : List Bool, ReadsAll h (bs.map Value.bool) (bs.map PyData.bool) []
  | [] => .nil
  | b :: bs => .cons (.bool b) (readsB h bs)
theorem countB (k : Bool) : ∀ bs : List Bool, countIn (.bool k) (bs.map PyData.bool) = ((bs.count k : Nat) : Int)
  | [] => rfl
  | b :: bs => by
    rw [List.map_cons, countIn, countB k bs, List.count_cons]
    cases b <;> cases k <;> simp [same] <;> omega
theorem mt_cntB {X : Cx} : MtR X "list.count" (rCntB X.K) := by
  intro pins s σ H x xs v us Q I rx rxs h
  obtain ⟨p, bs, k, rfl, rfl, hs, q⟩ := h
  cases rx
  obtain ⟨u, rfl, ru⟩ := rxs.one
  cases (show u = Value.bool k from ru)
  obtain ⟨its, rv, ⟨o, n, ho, hc, hdn, hd⟩, hlen⟩ := I.list hs
  have e := valsB rv
  subst e
  refine count_list_bools (vs := bs.map Value.bool) ⟨o, ho, hc, n, hd⟩ (readsB s.heap bs) (by simp [Shape.has]) ?_
  rw [countB]
  exact ⟨.int (bs.count k : Nat), H, I.tok _, ⟨s.toks, rfl⟩, q⟩
theorem g_cntB {K : PySem.W.Frag} {H0 H : Hp} {O : List Addr} {L : List (Addr × HO)} {p : Addr} {xs : List V} {bs : List Bool} {k : Bool} {Q : VK} (hs : Hs H0 H O L) (m : (p, .lst xs) ∈ L) (e : xs = bs.map V.bl) (h : Q (.int (bs.count k : Nat)) H) : rCntB K (.ref p) [.bl k] H Q :=
  ⟨p, bs, k, rfl, rfl, SqL.of (by rw [← e]; exact hs.mem m), h⟩
def spKin (K : PySem.W.Frag) (us : List Value) : Sp := fun vs H Q _ => ∃ (a C : Addr) (bs : List Bool), vs = [.ref a] ∧ IsE K H a C ∧ Paired (fun u b => PySem.W.kitOne K (.ref C) u = some b) us bs ∧ ∀ p H', H p = none → Same H H' → H' p = some (.lst (bs.map V.bl)) → Q (.ref p) H'
def spCls (K : PySem.W.Frag) (us : List Value) : Sp := fun vs H Q _ => ∃ (a C : Addr) (bs : List Bool), vs = [.ref a] ∧ IsE K H a C ∧ Paired (fun u b => PySem.W.kitOne K (.ref C) u = some b) us bs ∧ ∀ H', Same H H' → Q (.int (bs.count true : Nat)) H'
section
variable {P : Program} {w : World} {K : PySem.W.Frag} {mg : Str → Option Value} {base : Heap}
abbrev sKin : Stmt := top 78
theorem scKin : FnScope ["_law_e", "_law_seen"] ["_law_e"] (defScope sKin) := ⟨rfl, rfl, rfl, by decide +kernel, rfl, by decide +kernel, by decide +kernel⟩
theorem ok_kin {f CV CS CL : Addr} {fd : FuncData} (F : Fun K "_law_kin" "_law_kin" sKin f fd) (T : BltX mg) (G : OxG K) (mValueFault : mg "ValueFault" = some (.ref CV)) (mStateFault : mg "StateFault" = some (.ref CS)) (mLimitFault : mg "LimitFault" = some (.ref CL)) :
    FnOk P w K mg base CX0 1 f fd ["_law_e"] (spKin K [.ref CV, .ref CS, .ref CL, .type "ValueError", .type "LookupError", .type "ArithmeticError"]) := by
  refine F.ok scKin (fun vs H Q E h => ?_) (fun cdv A outer s H vs Q E hr h => ?_)
  · obtain ⟨a, C, bs, rfl, _⟩ := h
    rfl
  · obtain ⟨a, C, bs0, rfl, hE, kt0, k⟩ := h
    obtain ⟨b0, bs1, rfl, q0, kt1⟩ := prd kt0
    obtain ⟨b1, bs2, rfl, q1, kt2⟩ := prd kt1
    obtain ⟨b2, bs3, rfl, q2, kt3⟩ := prd kt2
    obtain ⟨b3, bs4, rfl, q3, kt4⟩ := prd kt3
    obtain ⟨b4, bs5, rfl, q4, kt5⟩ := prd kt4
    obtain ⟨b5, bs6, rfl, q5, kt6⟩ := prd kt5
    obtain rfl := prd0 kt6
    refine ⟨_, (pss_cons (ps_set (i := 1) scKin.nd rfl (Or.inl rfl) (pe_lst (pa_cons (pIs T (pv 0) (pG mValueFault)) (pa_cons (pIs T (pv 0) (pG mStateFault)) (pa_cons (pIs T (pv 0) (pG mLimitFault)) pa_nil)))))
      (pss_one (ps_ret (pe_op op_cat (pv 1) (pe_lst (pa_cons (pIs T (pv 0) (pe_bltn (v := .ty "ValueError") rfl T.ValueError PyProof.Rows.Boot.«ValueError» rfl)) (pa_cons (pIs T (pv 0) (pe_bltn (v := .ty "LookupError") rfl T.LookupError PyProof.Rows.Boot.«LookupError» rfl)) (pa_cons (pIs T (pv 0) (pe_bltn (v := .ty "ArithmeticError") rfl T.ArithmeticError PyProof.Rows.Boot.«ArithmeticError» rfl)) pa_nil)))))))), ?_⟩
    have h0 : Hs H H [] [] := Hs.start0
    repeat (first | walk_at "st" | walk_at "is")
    rename_i p H1 n1 h1
    exact k p H1 (h1.nw _ List.mem_cons_self fun z => nomatch z) h1.kept (h1.on _ List.mem_cons_self)
abbrev sClasses : Stmt := top 77
theorem scClasses : FnScope ["_law_e", "_law_seen"] ["_law_e"] (defScope sClasses) := ⟨rfl, rfl, rfl, by decide +kernel, rfl, by decide +kernel, by decide +kernel⟩
theorem ok_classes {f CNotALoad CNotAHandler CNotAWeb CInvalidName CInvalidText CInvalidNumber CInvalidRest CInvalidChoice CInvalidLine CUnknownKind CInvalidPairs CInvalidKinds CInvalidRows CInvalidNames CInvalidHandlers CInvalidEntries CInvalidIndexes CInvalidTerms CInvalidDeeds CLacking CHeeds CNotLasting CMeddling CRefused CEndless CNotComparable CNothingToUndo CBusy CTooManyKinds CTooManyStates CTooManyRows : Addr} {fd : FuncData} (F : Fun K "_law_classes" "_law_classes" sClasses f fd) (T : BltX mg) (G : OxG K) (mNotALoad : mg "NotALoad" = some (.ref CNotALoad)) (mNotAHandler : mg "NotAHandler" = some (.ref CNotAHandler)) (mNotAWeb : mg "NotAWeb" = some (.ref CNotAWeb)) (mInvalidName : mg "InvalidName" = some (.ref CInvalidName)) (mInvalidText : mg "InvalidText" = some (.ref CInvalidText)) (mInvalidNumber : mg "InvalidNumber" = some (.ref CInvalidNumber)) (mInvalidRest : mg "InvalidRest" = some (.ref CInvalidRest)) (mInvalidChoice : mg "InvalidChoice" = some (.ref CInvalidChoice)) (mInvalidLine : mg "InvalidLine" = some (.ref CInvalidLine)) (mUnknownKind : mg "UnknownKind" = some (.ref CUnknownKind)) (mInvalidPairs : mg "InvalidPairs" = some (.ref CInvalidPairs)) (mInvalidKinds : mg "InvalidKinds" = some (.ref CInvalidKinds)) (mInvalidRows : mg "InvalidRows" = some (.ref CInvalidRows)) (mInvalidNames : mg "InvalidNames" = some (.ref CInvalidNames)) (mInvalidHandlers : mg "InvalidHandlers" = some (.ref CInvalidHandlers)) (mInvalidEntries : mg "InvalidEntries" = some (.ref CInvalidEntries)) (mInvalidIndexes : mg "InvalidIndexes" = some (.ref CInvalidIndexes)) (mInvalidTerms : mg "InvalidTerms" = some (.ref CInvalidTerms)) (mInvalidDeeds : mg "InvalidDeeds" = some (.ref CInvalidDeeds)) (mLacking : mg "Lacking" = some (.ref CLacking)) (mHeeds : mg "Heeds" = some (.ref CHeeds)) (mNotLasting : mg "NotLasting" = some (.ref CNotLasting)) (mMeddling : mg "Meddling" = some (.ref CMeddling)) (mRefused : mg "Refused" = some (.ref CRefused)) (mEndless : mg "Endless" = some (.ref CEndless)) (mNotComparable : mg "NotComparable" = some (.ref CNotComparable)) (mNothingToUndo : mg "NothingToUndo" = some (.ref CNothingToUndo)) (mBusy : mg "Busy" = some (.ref CBusy)) (mTooManyKinds : mg "TooManyKinds" = some (.ref CTooManyKinds)) (mTooManyStates : mg "TooManyStates" = some (.ref CTooManyStates)) (mTooManyRows : mg "TooManyRows" = some (.ref CTooManyRows)) :
    FnOk P w K mg base CX0 1 f fd ["_law_e"] (spCls K [.ref CNotALoad, .ref CNotAHandler, .ref CNotAWeb, .ref CInvalidName, .ref CInvalidText, .ref CInvalidNumber, .ref CInvalidRest, .ref CInvalidChoice, .ref CInvalidLine, .ref CUnknownKind, .ref CInvalidPairs, .ref CInvalidKinds, .ref CInvalidRows, .ref CInvalidNames, .ref CInvalidHandlers, .ref CInvalidEntries, .ref CInvalidIndexes, .ref CInvalidTerms, .ref CInvalidDeeds, .ref CLacking, .ref CHeeds, .ref CNotLasting, .ref CMeddling, .ref CRefused, .ref CEndless, .ref CNotComparable, .ref CNothingToUndo, .ref CBusy, .ref CTooManyKinds, .ref CTooManyStates, .ref CTooManyRows]) := by
  refine F.ok scClasses (fun vs H Q E h => ?_) (fun cdv A outer s H vs Q E hr h => ?_)
  · obtain ⟨a, C, bs, rfl, _⟩ := h
    rfl
  · obtain ⟨a, C, bs0, rfl, hE, kt0, k⟩ := h
    obtain ⟨b0, bs1, rfl, q0, kt1⟩ := prd kt0
    obtain ⟨b1, bs2, rfl, q1, kt2⟩ := prd kt1
    obtain ⟨b2, bs3, rfl, q2, kt3⟩ := prd kt2
    obtain ⟨b3, bs4, rfl, q3, kt4⟩ := prd kt3
    obtain ⟨b4, bs5, rfl, q4, kt5⟩ := prd kt4
    obtain ⟨b5, bs6, rfl, q5, kt6⟩ := prd kt5
    obtain ⟨b6, bs7, rfl, q6, kt7⟩ := prd kt6
    obtain ⟨b7, bs8, rfl, q7, kt8⟩ := prd kt7
    obtain ⟨b8, bs9, rfl, q8, kt9⟩ := prd kt8
    obtain ⟨b9, bs10, rfl, q9, kt10⟩ := prd kt9
    obtain ⟨b10, bs11, rfl, q10, kt11⟩ := prd kt10
    obtain ⟨b11, bs12, rfl, q11, kt12⟩ := prd kt11
    obtain ⟨b12, bs13, rfl, q12, kt13⟩ := prd kt12
    obtain ⟨b13, bs14, rfl, q13, kt14⟩ := prd kt13
    obtain ⟨b14, bs15, rfl, q14, kt15⟩ := prd kt14
    obtain ⟨b15, bs16, rfl, q15, kt16⟩ := prd kt15
    obtain ⟨b16, bs17, rfl, q16, kt17⟩ := prd kt16
    obtain ⟨b17, bs18, rfl, q17, kt18⟩ := prd kt17
    obtain ⟨b18, bs19, rfl, q18, kt19⟩ := prd kt18
    obtain ⟨b19, bs20, rfl, q19, kt20⟩ := prd kt19
    obtain ⟨b20, bs21, rfl, q20, kt21⟩ := prd kt20
    obtain ⟨b21, bs22, rfl, q21, kt22⟩ := prd kt21
    obtain ⟨b22, bs23, rfl, q22, kt23⟩ := prd kt22
    obtain ⟨b23, bs24, rfl, q23, kt24⟩ := prd kt23
    obtain ⟨b24, bs25, rfl, q24, kt25⟩ := prd kt24
    obtain ⟨b25, bs26, rfl, q25, kt26⟩ := prd kt25
    obtain ⟨b26, bs27, rfl, q26, kt27⟩ := prd kt26
    obtain ⟨b27, bs28, rfl, q27, kt28⟩ := prd kt27
    obtain ⟨b28, bs29, rfl, q28, kt29⟩ := prd kt28
    obtain ⟨b29, bs30, rfl, q29, kt30⟩ := prd kt29
    obtain ⟨b30, bs31, rfl, q30, kt31⟩ := prd kt30
    obtain rfl := prd0 kt31
    refine ⟨_, (pss_cons (ps_set (i := 1) scClasses.nd rfl (Or.inl rfl) (pe_lst (pa_cons (pIs T (pv 0) (pG mNotALoad)) (pa_cons (pIs T (pv 0) (pG mNotAHandler)) (pa_cons (pIs T (pv 0) (pG mNotAWeb)) pa_nil)))))
      (pss_cons (ps_set (i := 1) scClasses.nd rfl (Or.inl rfl) (pe_op op_cat (pv 1) (pe_lst (pa_cons (pIs T (pv 0) (pG mInvalidName)) (pa_cons (pIs T (pv 0) (pG mInvalidText)) (pa_cons (pIs T (pv 0) (pG mInvalidNumber)) pa_nil))))))
      (pss_cons (ps_set (i := 1) scClasses.nd rfl (Or.inl rfl) (pe_op op_cat (pv 1) (pe_lst (pa_cons (pIs T (pv 0) (pG mInvalidRest)) (pa_cons (pIs T (pv 0) (pG mInvalidChoice)) (pa_cons (pIs T (pv 0) (pG mInvalidLine)) pa_nil))))))
      (pss_cons (ps_set (i := 1) scClasses.nd rfl (Or.inl rfl) (pe_op op_cat (pv 1) (pe_lst (pa_cons (pIs T (pv 0) (pG mUnknownKind)) (pa_cons (pIs T (pv 0) (pG mInvalidPairs)) (pa_cons (pIs T (pv 0) (pG mInvalidKinds)) pa_nil))))))
      (pss_cons (ps_set (i := 1) scClasses.nd rfl (Or.inl rfl) (pe_op op_cat (pv 1) (pe_lst (pa_cons (pIs T (pv 0) (pG mInvalidRows)) (pa_cons (pIs T (pv 0) (pG mInvalidNames)) (pa_cons (pIs T (pv 0) (pG mInvalidHandlers)) pa_nil))))))
      (pss_cons (ps_set (i := 1) scClasses.nd rfl (Or.inl rfl) (pe_op op_cat (pv 1) (pe_lst (pa_cons (pIs T (pv 0) (pG mInvalidEntries)) (pa_cons (pIs T (pv 0) (pG mInvalidIndexes)) pa_nil)))))
      (pss_cons (ps_set (i := 1) scClasses.nd rfl (Or.inl rfl) (pe_op op_cat (pv 1) (pe_lst (pa_cons (pIs T (pv 0) (pG mInvalidTerms)) (pa_cons (pIs T (pv 0) (pG mInvalidDeeds)) (pa_cons (pIs T (pv 0) (pG mLacking)) pa_nil))))))
      (pss_cons (ps_set (i := 1) scClasses.nd rfl (Or.inl rfl) (pe_op op_cat (pv 1) (pe_lst (pa_cons (pIs T (pv 0) (pG mHeeds)) (pa_cons (pIs T (pv 0) (pG mNotLasting)) (pa_cons (pIs T (pv 0) (pG mMeddling)) pa_nil))))))
      (pss_cons (ps_set (i := 1) scClasses.nd rfl (Or.inl rfl) (pe_op op_cat (pv 1) (pe_lst (pa_cons (pIs T (pv 0) (pG mRefused)) (pa_cons (pIs T (pv 0) (pG mEndless)) (pa_cons (pIs T (pv 0) (pG mNotComparable)) pa_nil))))))
      (pss_cons (ps_set (i := 1) scClasses.nd rfl (Or.inl rfl) (pe_op op_cat (pv 1) (pe_lst (pa_cons (pIs T (pv 0) (pG mNothingToUndo)) (pa_cons (pIs T (pv 0) (pG mBusy)) (pa_cons (pIs T (pv 0) (pG mTooManyKinds)) pa_nil))))))
      (pss_cons (ps_set (i := 1) scClasses.nd rfl (Or.inl rfl) (pe_op op_cat (pv 1) (pe_lst (pa_cons (pIs T (pv 0) (pG mTooManyStates)) (pa_cons (pIs T (pv 0) (pG mTooManyRows)) pa_nil)))))
      (pss_one (ps_ret (pe_bm PySem.F.plainAttrs_list PySem.F.slot_list_count PySem.F.type_list_count mt_cntB (pv 1) (pa_cons pe_bl pa_nil))))))))))))))), ?_⟩
    have h0 : Hs H H [] [] := Hs.start0
    repeat (first | walk_at "st" | walk_at "is")
    refine g_bm ?_
    repeat walk_at "st"
    rename_i p H1 n1 h1
    refine g_bmL h1 List.mem_cons_self ?_
    repeat walk_at "st"
    refine g_cntB (bs := [b0, b1, b2, b3, b4, b5, b6, b7, b8, b9, b10, b11, b12, b13, b14, b15, b16, b17, b18, b19, b20, b21, b22, b23, b24, b25, b26, b27, b28, b29, b30]) h1 List.mem_cons_self rfl ?_
    exact k H1 h1.kept
end
end My
set_option Elab.async false
set_option maxRecDepth 100000
set_option maxHeartbeats 4000000
namespace My
open PySem L2
/-! ### comprehensions over a list -/
theorem wipe1 (σ : L2.St) (i : Nat) (x : Option V) : wipe ((wipe σ [i]).set i x) [i] = wipe σ [i] := by
  show ((σ.set i none).set i x).set i none = σ.set i none
  rw [List.set_set, List.set_set]
/-- [e for x in v], from the value v on: x in slot i -/
def LcAt (K : PySem.W.Frag) (te : TE) (i : Nat) (σ : L2.St) (Q : VK) (v : V) (H1 : Hp) : Prop := ∃ a, v = .ref a ∧ (∃ xs, SqL K H1 a xs) ∧ ∀ D, H1 D = none → ∃ W : Nat → Nat → Hp → Prop, (∃ m, W 0 m (upd H1 D (.lst []))) ∧ ∀ j m H, W j m H →
  ((Itl K a).stop j H ∧ Q (.ref D) H) ∨ ((Itl K a).go j H ∧ ∃ Nx : Hp → Prop, (∀ H', Nx H' → ∃ m', m' < m ∧ W (j + 1) m' H') ∧ ∀ x H', (Itl K a).yld j H x H' → gName i x (wipe σ [i]) H' fun σ2 H2 => wipe σ2 [i] = wipe σ [i] ∧ tYes σ2 H2 fun b H3 =>
    if b = true then te σ2 H3 fun y H4 => ∃ acc, H4 D = some (.lst acc) ∧ acc.length < sizeLine ∧ Nx (upd H4 D (.lst (acc ++ [y]))) else Nx H3)
section
variable {K : PySem.W.Frag} {H0 H : Hp} {O : List Addr} {L : List (Addr × HO)} {Q : VK} {σ : L2.St} {te tl : TE} {i : Nat} {p : Addr} {xs : List V}
theorem g_lc (h : tl σ H fun v H1 => LcAt K te i σ Q v H1) : tLc (iList K tl) (gName i) tYes te [i] σ H Q := h
/-- the items one by one, each by a function of its own -/
theorem g_lcM (f : V → V) (hs : Hs H0 H O L) (m : (p, .lst xs) ∈ L) (hl : xs.length ≤ 40000) (he : ∀ (j : Nat) (x : V) (H1 : Hp), xs[j]? = some x → Same H H1 → ∀ R : VK, (∀ H2, Same H1 H2 → R (f x) H2) → te ((wipe σ [i]).set i (some x)) H1 R)
    (k : ∀ D H1, H D = none → Hs H0 H1 O ((D, .lst (xs.map f)) :: L) → Q (.ref D) H1) : LcAt K te i σ Q (.ref p) H := by
  have e := hs.mem m
  refine ⟨p, rfl, ⟨xs, SqL.of e⟩, fun D hD => lc_list (xs := xs) (fun j H1 => Same H H1 ∧ H1 D = some (.lst ((xs.take j).map f))) ⟨fun b o q => by rw [upd_ne (ne_of_none q hD)]; exact q, upd_same⟩ (fun j H1 _ q => SqL.of (q.1 _ _ e)) (fun j x H1 hx q => ?_) (fun H1 q => ?_)⟩
  · obtain ⟨s1, d1⟩ := q
    refine ⟨wipe1 σ i _, ?_⟩
    unfold tYes
    refine iteT (he j x H1 hx s1 _ fun H2 s2 => ⟨_, s2 _ _ d1, ?_, fun b o z => ?_, ?_⟩)
    · rw [List.length_map]
      exact Nat.lt_of_le_of_lt (Nat.le_trans (List.length_take_le' _ _) hl) (by decide)
    · rw [upd_ne (ne_of_none z hD)]
      exact s2 _ _ (s1 _ _ z)
    · rw [upd_same, List.take_add_one, hx, List.map_append]
      rfl
  · obtain ⟨s1, d1⟩ := q
    rw [List.take_length] at d1
    exact k D H1 hD (hs.add s1 hD d1)
/-- the items unrolled: what is to be shown from the list acc on -/
def Run (K : PySem.W.Frag) (te : TE) (i : Nat) (σ : L2.St) (Q : VK) (p : Addr) (all : List V) (D : Addr) : List V → Hp → Prop
  | [], H => SqL K H p all ∧ Q (.ref D) H
  | x :: xs, H => SqL K H p all ∧ te ((wipe σ [i]).set i (some x)) H fun y H4 => ∃ acc, H4 D = some (.lst acc) ∧ acc.length < sizeLine ∧ Run K te i σ Q p all D xs (upd H4 D (.lst (acc ++ [y])))
theorem Run.sq {D : Addr} : ∀ {ys : List V} {H : Hp}, Run K te i σ Q p xs D ys H → SqL K H p xs
  | [], _, h => h.1
  | _ :: _, _, h => h.1
theorem g_lcU (hs : Hs H0 H O L) (m : (p, .lst xs) ∈ L) (k : ∀ D H1, H D = none → Hs H0 H1 O ((D, .lst []) :: L) → Run K te i σ Q p xs D xs H1) : LcAt K te i σ Q (.ref p) H := by
  have e := hs.mem m
  refine ⟨p, rfl, ⟨xs, SqL.of e⟩, fun D hD => lc_list (xs := xs) (fun j H1 => Run K te i σ Q p xs D (xs.drop j) H1) (k D _ hD (hs.new hD)) (fun j H1 _ q => Run.sq q) (fun j x H1 hx q => ?_) (fun H1 q => ?_)⟩
  · obtain ⟨hj, ex⟩ := List.getElem?_eq_some_iff.mp hx
    rw [List.drop_eq_getElem_cons hj, ex] at q
    refine ⟨wipe1 σ i _, ?_⟩
    unfold tYes
    exact iteT q.2
  · rw [List.drop_length] at q
    exact q.2
/-- a turn of the unrolled one -/
theorem g_run {x : V} {xs ys : List V} {D : Addr} (hs : Hs H0 H O L) (m : (p, .lst xs) ∈ L) (h : te ((wipe σ [i]).set i (some x)) H fun y H4 => ∃ acc, H4 D = some (.lst acc) ∧ acc.length < sizeLine ∧ Run K te i σ Q p xs D ys (upd H4 D (.lst (acc ++ [y])))) : Run K te i σ Q p xs D (x :: ys) H := ⟨SqL.of (hs.mem m), h⟩
theorem g_run0 {xs : List V} {D : Addr} (hs : Hs H0 H O L) (m : (p, .lst xs) ∈ L) (h : Q (.ref D) H) : Run K te i σ Q p xs D [] H := ⟨SqL.of (hs.mem m), h⟩
theorem g_acc {R : Hp → Prop} {acc : List V} {D : Addr} {y : V} {L' : List (Addr × HO)} (hs : Hs H0 H O L) (m : Put D (.lst acc) (.lst (acc ++ [y])) L L') (hl : acc.length ≤ 100000) (h : ∀ H1, Hs H0 H1 O L' → R H1) : ∃ a, H D = some (.lst a) ∧ a.length < sizeLine ∧ R (upd H D (.lst (a ++ [y]))) := by
  obtain ⟨k, e1, _⟩ := m.at
  exact ⟨acc, hs.get k e1, Nat.lt_of_le_of_lt hl (by decide), h _ (hs.putM m)⟩
end
end My
set_option Elab.async false
set_option maxRecDepth 100000
set_option maxHeartbeats 8000000
namespace My
open PySem PySem.Spec PyProof.Rows L2
/-- e.f, from the value of e on -/
def XatAt (K : PySem.W.Frag) (f : Str) (x : V) (H1 : Hp) (Q : VK) : Prop := ∃ (a C d : Addr) (fs : List (Str × V)) (v : V) (newId : String) (bmB : List Value), x = .ref a ∧ OxC K C newId bmB ∧ PySem.W.findIn K (.ref C) f = some none ∧
  H1 a = some (exo a C (some d)) ∧ H1 d = some (exd d fs) ∧ fs.lookup f = some v ∧ Q v H1
section
variable {K : PySem.W.Frag} {H0 H : Hp} {O : List Addr} {L : List (Addr × HO)} {Q : VK} {σ : L2.St}
theorem g_xat {f : Str} {te : TE} (h : te σ H fun x H1 => XatAt K f x H1 Q) : tXat K f te σ H Q := h
theorem g_xatH {f : Str} {a C d : Addr} {fs : List (Str × V)} {v : V} {newId : String} {bmB : List Value} (hs : Hs H0 H O L) (m1 : (a, exo a C (some d)) ∈ L) (m2 : (d, exd d fs) ∈ L) (ox : OxC K C newId bmB) (no : PySem.W.findIn K (.ref C) f = some none) (l : fs.lookup f = some v) (h : Q v H) : XatAt K f (.ref a) H Q :=
  ⟨a, C, d, fs, v, newId, bmB, rfl, ox, no, hs.mem m1, hs.mem m2, l, h⟩
theorem g_rep {l : Addr} {k : Int} {xs : List V} (hs : Hs H0 H O L) (m : (l, .lst xs) ∈ L) (h1 : -(2 ^ 63) ≤ k) (h2 : k < 2 ^ 63) (hz : xs.length * k.toNat ≤ 100000) (h : ∀ p H1, H p = none → Hs H0 H1 O ((p, .lst (List.replicate k.toNat xs).flatten) :: L) → Q (.ref p) H1) : rRep (.ref l) (.int k) H Q :=
  ⟨l, k, xs, rfl, rfl, hs.mem m, h1, h2, Nat.le_trans hz (by decide), fun p hp => h p _ hp (hs.new hp)⟩
theorem g_bm2 {T : String} {r : V → List V → Hp → VK → Prop} {to : TE} {t : TA} (h : to σ H fun x H1 => tyV K T x H1 ∧ t σ H1 fun xs H2 => r x xs H2 Q) : tBM K T r to t σ H Q := h
theorem g_tyL {p : Addr} {xs : List V} {R : Prop} (hs : Hs H0 H O L) (m : (p, .lst xs) ∈ L) (h : R) : tyV K "list" (.ref p) H ∧ R := ⟨Or.inl ⟨rfl, _, SqL.of (hs.mem m)⟩, h⟩
theorem g_app {l : Addr} {xs : List V} {y : V} {L' : List (Addr × HO)} (hs : Hs H0 H O L) (m : Put l (.lst xs) (.lst (xs ++ [y])) L L') (hl : xs.length ≤ 100000) (h : ∀ H1, Hs H0 H1 O L' → Q .non H1) : rAppend (.ref l) [y] H Q := by
  obtain ⟨k, e1, _⟩ := m.at
  exact ⟨l, xs, y, rfl, rfl, hs.get k e1, Nat.lt_of_le_of_lt hl (by decide), h _ (hs.putM m)⟩
end
/-- repr of v is t wherever H's objects stand, in whatever def of this text one is -/
structure Shown (P : Program) (w : World) (K : PySem.W.Frag) (mg : Str → Option Value) (base : Heap) (H : Hp) (as : List Addr) (v : V) (t : Str) : Prop where
  small : t.length ≤ 3000
  there : ∀ b ∈ as, H b ≠ none
  rv : ∀ X : Cx, X.prog = P → X.w = w → X.K = K → X.mg = mg → X.base = base → RV X 8 H as 2 v t
theorem Shown.same {P : Program} {w : World} {K : PySem.W.Frag} {mg : Str → Option Value} {base : Heap} {H H' : Hp} {as : List Addr} {v : V} {t : Str} (h : Shown P w K mg base H as v t) (e : Same H H') : Shown P w K mg base H' as v t :=
  ⟨h.small, (fun b hb q => by
    have n := h.there b hb
    cases z : H b with
    | none => exact n z
    | some o =>
      rw [e b o z] at q
      cases q), fun X h1 h2 h3 h4 h5 => (h.rv X h1 h2 h3 h4 h5).mono e (fun b hb => hb) (Nat.le_refl 2)⟩
/-- an exception of the class at C stands at u, with a dict or without -/
def ExIs (H : Hp) (u : V) (C : Addr) : Prop := ∃ a d, u = .ref a ∧ H a = some (exo a C d) ∧ (d = none ∨ ∃ dx fs, d = some dx ∧ H dx = some (exd dx fs))
def Ex3 (P : Program) (w : World) (K : PySem.W.Frag) (mg : Str → Option Value) (base : Heap) (C : Addr) : Prop := ∃ fI B newId initId bmB fd, XCls P w K mg base "Heeds" C fI B newId initId bmB ["self", "state", "one", "other"] (spI3 C "state" "one" "other") fd ∧
  KBn K fd ["self", "state", "one", "other"] 1 ["other", "state", "one"] gH gH ∧ PySem.W.findIn K (.ref C) "state" = some none ∧ PySem.W.findIn K (.ref C) "one" = some none ∧ PySem.W.findIn K (.ref C) "other" = some none
def Ex0 (K : PySem.W.Frag) (mg : Str → Option Value) (x : Str) (C : Addr) : Prop := ∃ B newId initId bmB, ExcBaseFacts B newId initId bmB ∧ PySem.W.excIn K C bmB newId = true ∧ OxC K C newId bmB ∧ mg x = some (.ref C)
def spOthers (P : Program) (w : World) (K : PySem.W.Frag) (mg : Str → Option Value) (base : Heap) (Cs : List Addr) : Sp := fun vs H Q _ => ∃ (x y : V) (ax ay : List Addr) (tx ty : Str), vs = [x, y] ∧ Shown P w K mg base H ax x tx ∧ Shown P w K mg base H ay y ty ∧
  ∀ p us H', H p = none → Same H H' → H' p = some (.lst us) → Paired (ExIs H') us Cs → Q (.ref p) H'
theorem Shown.more {P : Program} {w : World} {K : PySem.W.Frag} {mg : Str → Option Value} {base : Heap} {H : Hp} {as bs : List Addr} {v : V} {t : Str} (h : Shown P w K mg base H as v t) (hb : ∀ b ∈ bs, H b ≠ none) (sub : ∀ a ∈ as, a ∈ bs) : Shown P w K mg base H bs v t :=
  ⟨h.small, hb, fun X h1 h2 h3 h4 h5 => (h.rv X h1 h2 h3 h4 h5).mono (Same.refl H) sub (Nat.le_refl 2)⟩
theorem listText_le (ts : List Str) : (listText ts).length ≤ piled ts + 2 := by
  have whole : (listText ts).length = (textFrom 0 "[" ts).length + 1 := by
    show (textFrom 0 "[" ts ++ "]").length = _
    rw [strLen_append]
    rfl
  cases ts with
  | nil =>
    rw [whole]
    decide
  | cons t r =>
    have q := textFrom_length_pos r 1 (("[" : Str) ++ (if (0 : Nat) > 0 then ", " else "" : String) ++ t) (Nat.succ_pos 0)
    have e : ((("[" : Str) ++ (if (0 : Nat) > 0 then ", " else "" : String) ++ t)).length = 1 + t.length := by
      rw [strLen_append, strLen_append]
      rfl
    have z : (textFrom 0 "[" (t :: r)).length = (textFrom 1 (("[" : Str) ++ (if (0 : Nat) > 0 then ", " else "" : String) ++ t) r).length := rfl
    rw [whole, z, q, e, piled_cons]
    omega
theorem piled_le {ts : List Str} {n : Nat} (h : ∀ t ∈ ts, t.length ≤ n) : piled ts ≤ ts.length * (n + 2) := by
  induction ts with
  | nil => exact Nat.zero_le _
  | cons t r ih =>
    have q := ih fun u hu => h u (List.mem_cons_of_mem _ hu)
    have z := h t List.mem_cons_self
    rw [piled_cons, List.length_cons, Nat.succ_mul]
    omega
theorem pairedGet {α β : Type} {F : α → β → Prop} : ∀ {as : List α} {bs : List β} {i : Nat} {a : α} {b : β}, Paired F as bs → as[i]? = some a → bs[i]? = some b → F a b
  | _, _, 0, _, _, .cons h _, e1, e2 => by
    simp at e1 e2
    subst e1 e2
    exact h
  | _, _, i + 1, _, _, .cons _ t, e1, e2 => pairedGet (i := i) t (by simpa using e1) (by simpa using e2)
  | _, _, _, _, _, .nil, e1, _ => by simp at e1
/-- rows of shown things, each row a list of its own -/
inductive Rows (S : V → Str → Prop) (L : List (Addr × HO)) : List V → List (List Str) → Prop where
  | nil : Rows S L [] []
  | cons {l : Addr} {y : V} {ys us : List V} {ts : List Str} {tss : List (List Str)} (m : (l, .lst (y :: ys)) ∈ L) (h : Paired S (y :: ys) ts) (hn : ts.length ≤ 30) (r : Rows S L us tss) : Rows S L (.ref l :: us) (ts :: tss)
def rowsText (tss : List (List Str)) : Str := listText (tss.map listText)
theorem Rows.len {S : V → Str → Prop} {L : List (Addr × HO)} : ∀ {us : List V} {tss : List (List Str)}, Rows S L us tss → tss.length = us.length
  | _, _, .nil => rfl
  | _, _, .cons _ _ _ r => congrArg Nat.succ r.len
theorem Rows.get {S : V → Str → Prop} {L : List (Addr × HO)} : ∀ {us : List V} {tss : List (List Str)} {i : Nat} {u : V} {t : Str}, Rows S L us tss → us[i]? = some u → (tss.map listText)[i]? = some t →
    ∃ l y ys ts, u = .ref l ∧ (l, .lst (y :: ys)) ∈ L ∧ Paired S (y :: ys) ts ∧ ts.length ≤ 30 ∧ t = listText ts
  | _, _, 0, _, _, .cons m h hn _, e1, e2 => by
    simp at e1 e2
    exact ⟨_, _, _, _, e1.symm, m, h, hn, e2.symm⟩
  | _, _, i + 1, _, _, .cons _ _ _ r, e1, e2 => r.get (i := i) (by simpa using e1) (by simpa using e2)
  | _, _, _, _, _, .nil, e1, _ => by simp at e1
/-- the list of what is known, but for p -/
inductive Cut (p : Addr) (o : HO) : List (Addr × HO) → List (Addr × HO) → Prop where
  | head {L : List (Addr × HO)} : Cut p o ((p, o) :: L) L
  | tail {x : Addr × HO} {L L' : List (Addr × HO)} (h : Cut p o L L') : Cut p o (x :: L) (x :: L')
theorem Cut.mem {p : Addr} {o : HO} : ∀ {L L' : List (Addr × HO)}, Cut p o L L' → (p, o) ∈ L
  | _, _, .head => List.mem_cons_self
  | _, _, .tail h => List.mem_cons_of_mem _ h.mem
theorem Cut.sub {p : Addr} {o : HO} : ∀ {L L' : List (Addr × HO)}, Cut p o L L' → ∀ x ∈ L', x ∈ L
  | _, _, .head, _, m => List.mem_cons_of_mem _ m
  | _, _, .tail h, _, m => (List.mem_cons.mp m).elim (fun e => e ▸ List.mem_cons_self) fun m => List.mem_cons_of_mem _ (h.sub _ m)
theorem Cut.notin {p : Addr} {o : HO} : ∀ {L L' : List (Addr × HO)}, Cut p o L L' → (L.map (·.1)).Nodup → p ∉ L'.map (·.1)
  | _, _, .head, nd => (List.nodup_cons.mp nd).1
  | _, _, .tail h, nd => fun m => by
    have q := List.nodup_cons.mp nd
    rcases List.mem_cons.mp m with e | e
    · exact q.1 (e ▸ List.mem_map.mpr ⟨_, h.mem, rfl⟩)
    · exact h.notin q.2 e
theorem g_x3k {H0 H : Hp} {O : List Addr} {L : List (Addr × HO)} {Q : VK} {C : Addr} {f g h : Str} {x y z : V} {gV : List V → List V → List V} {zs : List V} {m : Nat} (hs : Hs H0 H O L) (hz : zs.length = m) (hg : ∀ a, gV [.ref a] zs = [.ref a, x, y, z])
    (q : ∀ a d H1, Hs H0 H1 O ((a, exo a C (some d)) :: (d, exd d [(h, z), (g, y), (f, x)]) :: L) → Q (.ref a) H1) : XNewK C m (spI3 C f g h) gV zs H Q :=
  ⟨hz, fun a ha => by rw [hg a]; exact i3_ok hs q a ha⟩
theorem g_ne {H : Hp} {Q : VK} {t : Str} (h : Q (.bl (!decide (V.str t = V.str t))) H) : rNe (.str t) (.str t) H Q := ⟨rfl, h⟩
/-- repr of rows of shown things -/
theorem reprRows {P : Program} {w : World} {K : PySem.W.Frag} {mg : Str → Option Value} {base : Heap} {X : Cx} {H0 H : Hp} {L0 L : List (Addr × HO)} {Q : VK} {p : Addr} {u : V} {us : List V} {tss : List (List Str)} {as : List Addr} (hs : Hs H0 H [] L0) (hc : Cut p (.lst (u :: us)) L0 L) (R : Rows (Shown P w K mg base H0 as) L (u :: us) tss)
    (hn : us.length ≤ 5) (has : ∀ b ∈ as, H0 b ≠ none) (h1 : X.prog = P) (h2 : X.w = w) (h3 : X.K = K) (h4 : X.mg = mg) (h5 : X.base = base) (h : ∀ H1, Same H H1 → Q (.str (rowsText tss)) H1) : rReprL X 8 [.ref p] H Q := by
  have hp : H0 p = none := hs.nw _ hc.mem fun z => nomatch z
  have pn : p ∉ L.map (·.1) := hc.notin hs.nd
  have kp := hs.kept
  -- the rows' addresses
  have small : ∀ t ∈ tss.map listText, t.length ≤ 100000 := by
    intro t ht
    obtain ⟨i, hi, e⟩ := List.getElem_of_mem ht
    have e2 : (tss.map listText)[i]? = some t := by rw [List.getElem?_eq_getElem hi, e]
    have hi2 : i < (u :: us).length := by
      rw [List.length_map, R.len] at hi
      exact hi
    obtain ⟨l, y, ys, ts, eu, m, pr, n30, et⟩ := R.get (List.getElem?_eq_getElem hi2) e2
    rw [et]
    have q1 := listText_le ts
    have q2 : piled ts ≤ ts.length * (3000 + 2) := piled_le fun t' ht' => by
      obtain ⟨j, hj, ej⟩ := List.getElem_of_mem ht'
      have lj : j < (y :: ys).length := by
        rw [pr.length]
        exact hj
      have s := pairedGet pr (List.getElem?_eq_getElem lj) (by rw [List.getElem?_eq_getElem hj, ej])
      exact s.small
    have q3 : ts.length * (3000 + 2) ≤ 30 * (3000 + 2) := Nat.mul_le_mul_right _ n30
    omega
  have top := listText_le (tss.map listText)
  have top2 := piled_le small
  have top3 : (tss.map listText).length ≤ 6 := by
    rw [List.length_map, R.len]
    show us.length + 1 ≤ 6
    omega
  have top4 : (tss.map listText).length * (100000 + 2) ≤ 6 * (100000 + 2) := Nat.mul_le_mul_right _ top3
  refine ⟨p, u, us, tss.map listText, (u :: us).filterMap (fun v => match v with | .ref l => some l | _ => none) ++ as, 3, rfl, hs.on _ hc.mem, by rw [List.length_map, R.len], fun z => ?_, by decide, Nat.le_trans (show (listText (tss.map listText)).length ≤ 1000000 by omega) (by decide), fun i x t hx ht => ?_, h⟩
  · rcases List.mem_append.mp z with z | z
    · obtain ⟨v, hv, e⟩ := List.mem_filterMap.mp z
      obtain ⟨i, hi, ei⟩ := List.getElem_of_mem hv
      have hi2 : i < (tss.map listText).length := by
        rw [List.length_map, R.len]
        exact hi
      obtain ⟨l, y, ys, ts, eu, m, _⟩ := R.get (by rw [List.getElem?_eq_getElem hi, ei]) (List.getElem?_eq_getElem hi2)
      rw [eu] at e
      obtain rfl : l = p := Option.some.inj e
      exact pn (List.mem_map.mpr ⟨_, m, rfl⟩)
    · exact has p z hp
  · obtain ⟨l, y, ys, ts, eu, m, pr, n30, et⟩ := R.get hx ht
    subst eu et
    have hl : H l = some (.lst (y :: ys)) := hs.mem (hc.sub _ m)
    have l0 : H0 l = none := hs.nw _ (hc.sub _ m) fun z => nomatch z
    have rv : RV X 8 H (l :: as) (2 + 1) (.ref l) (listText ts) := RV.list hl pr.length.symm (fun j x2 t2 e1 e2 => ((pairedGet pr e1 e2).rv X h1 h2 h3 h4 h5).mono kp (fun b hb => hb) (Nat.le_refl 2)) fun z => has l z l0
    refine rv.mono (Same.refl H) (fun b hb => ?_) (Nat.le_refl 3)
    rcases List.mem_cons.mp hb with e | e
    · rw [e]
      exact List.mem_append_left _ (List.mem_filterMap.mpr ⟨_, List.mem_of_getElem? hx, rfl⟩)
    · exact List.mem_append_right _ e
local macro_rules | `(tactic| walk_at "cond") => `(tactic| first
  | exact Or.inr ⟨by decide, by decide⟩ | exact Or.inl ⟨by decide, by decide⟩ | exact ⟨by decide, by decide, by decide⟩ | exact ⟨by decide, by decide⟩
  | (refine Or.inl ⟨?_, ?_⟩ <;> omega) | (refine Or.inr ⟨?_, ?_⟩ <;> omega)
  | (show (0 : Int) < _; omega))
local macro_rules | `(tactic| walk_at "mem") => `(tactic| first | exact List.Mem.head _ | exact List.Mem.tail _ (List.Mem.head _) | exact Put.head | (refine List.Mem.tail _ ?_; walk_at "mem") | (apply Put.tail; walk_at "mem"))
local macro_rules | `(tactic| walk_at "st") => `(tactic| first
  | with_reducible refine g_seq ?_ | with_reducible refine g_asg ?_ | with_reducible refine g_name ?_ | ((with_reducible show tVar _ _ _ _); refine g_var rfl ?_) | with_reducible refine g_c ?_
  | with_reducible refine g_op ?_ | with_reducible refine g_test ?_ | with_reducible refine g_bl ?_
  | with_reducible refine g_cb ?_ | with_reducible refine g_cons ?_ | with_reducible refine g_nil ?_ | with_reducible refine g_tif ?_ | with_reducible refine g_ifs ?_ | with_reducible refine g_ret ?_
  | with_reducible refine g_drop ?_ | with_reducible refine g_next ?_
  | with_reducible refine g_i0 ?_ | ((with_reducible show rI _ _ _ _ _ _); refine g_i (by walk_at "cond") ?_) | with_reducible refine g_int ?_ | with_reducible refine g_abs ?_ | with_reducible refine g_or ?_
  | with_reducible refine g_and ?_ | with_reducible refine g_not ?_ | with_reducible refine g_lst ?_ | with_reducible refine g_tup ?_
  | with_reducible refine iteT ?_ | with_reducible refine iteF ?_ | with_reducible refine g_par ?_ | with_reducible refine g_two ?_ | with_reducible refine g_sub ?_
  | ((with_reducible show rIxL _ (V.ref _) (V.int _) _ _); refine g_ixM (by assumption) (by walk_at "mem") rfl rfl ?_)
  | ((with_reducible show rSetL (V.ref _) (V.int _) _ _ _); refine g_setM (by assumption) rfl (by walk_at "mem") fun _ _ => ?_)
  | with_reducible refine g_xmk ?_ | with_reducible refine g_xmkK ?_
  | ((with_reducible show XNew _ (spI1 _ _) _ _ _); refine g_x1 (by assumption) fun _ _ _ _ => ?_)
  | ((with_reducible show XNewK _ _ (spI1 _ _) _ _ _ _); refine g_x1k (by assumption) fun _ _ _ _ => ?_)
  | ((with_reducible show XNew _ (spI3 _ _ _ _) _ _ _); refine g_x3 (by assumption) fun _ _ _ _ => ?_)
  | ((with_reducible show tXmk0 _ _ _ _); refine g_xmk0 (by assumption) fun _ _ _ => ?_)
  | ((with_reducible show NewO _ _ _ _); refine g_newo (by assumption) (by first | decide | simp) fun _ _ _ _ => ?_)
  | ((with_reducible show rCat (V.ref _) (V.ref _) _ _); refine g_cat (by assumption) (by walk_at "mem") (by walk_at "mem") (by first | decide | simp) fun _ _ _ _ => ?_)
  | ((with_reducible show tLc _ _ _ _ _ _ _ _); refine g_lc ?_)
  | ((with_reducible show LcAt _ _ _ _ _ (V.ref _) _); refine g_lcU (by assumption) (by walk_at "mem") fun _ _ _ _ => ?_)
  | ((with_reducible show Run _ _ _ _ _ _ _ _ (_ :: _) _); refine g_run (by assumption) (by walk_at "mem") ?_)
  | ((with_reducible show Run _ _ _ _ _ _ _ _ [] _); refine g_run0 (by assumption) (by walk_at "mem") ?_)
  | ((with_reducible show ∃ a, _ = some (HO.lst a) ∧ _); refine g_acc (by assumption) (by walk_at "mem") (by first | decide | simp) fun _ _ => ?_)
  | with_reducible refine g_xat ?_
  | ((with_reducible show XatAt _ _ (V.ref _) _ _); refine g_xatH (by assumption) (by walk_at "mem") (by walk_at "mem") (by assumption) (by assumption) (by with_unfolding_all rfl) ?_)
  | ((with_reducible show rRep (V.ref _) (V.int _) _ _); refine g_rep (by assumption) (by walk_at "mem") (by decide) (by decide) (by first | decide | simp) fun _ _ _ _ => ?_)
  | with_reducible refine g_bm2 ?_
  | ((with_reducible show tyV _ "list" (V.ref _) _ ∧ _); refine g_tyL (by assumption) (by walk_at "mem") ?_)
  | ((with_reducible show rAppend (V.ref _) [_] _ _); refine g_app (by assumption) (by walk_at "mem") (by first | decide | simp) fun _ _ => ?_))

local macro_rules | `(tactic| walk_at "st") => `(tactic| ((with_reducible show XNewK _ _ (spI3 _ _ _ _) _ _ _ _); refine g_x3k (by assumption) rfl (fun _ => rfl) fun _ _ _ _ => ?_))
local macro_rules | `(tactic| walk_at "pair") => `(tactic| first | exact Paired.nil | (refine Paired.cons (by assumption) ?_; walk_at "pair"))
local macro_rules | `(tactic| walk_at "rows") => `(tactic| first | exact Rows.nil | (refine Rows.cons (by walk_at "mem") (by walk_at "pair") (by simp) ?_; walk_at "rows"))
local macro_rules | `(tactic| walk_at "cut") => `(tactic| first | exact Cut.head | (apply Cut.tail; walk_at "cut"))
abbrev sOthers : Stmt := top 75
theorem scOthers : FnScope ["_law_low", "_law_high", "_law_made", "_law_told", "_law_heeds", "_law_e"] ["_law_low", "_law_high"] (defScope sOthers) := ⟨rfl, rfl, rfl, by decide +kernel, rfl, by decide +kernel, by decide +kernel⟩
structure BltR (mg : Str → Option Value) : Prop where
  repr : mg "repr" = none
theorem ok_others {P : Program} {w : World} {K : PySem.W.Frag} {mg : Str → Option Value} {base : Heap} {f CLacking CNotLasting CMeddling CRefused CHeeds CEndless CNotComparable CNothingToUndo CBusy : Addr} {fd : FuncData} (F : Fun K "_law_others" "_law_others" sOthers f fd) (T : BltR mg)
    (eLacking : Ex1 P w K mg base "Lacking" "name" CLacking) (eNotLasting : Ex1 P w K mg base "NotLasting" "rest" CNotLasting) (eMeddling : Ex1 P w K mg base "Meddling" "load" CMeddling) (eRefused : Ex1 P w K mg base "Refused" "load" CRefused) (eHeeds : Ex3 P w K mg base CHeeds) (eEndless : Ex0 K mg "Endless" CEndless) (eNotComparable : Ex0 K mg "NotComparable" CNotComparable) (eNothingToUndo : Ex0 K mg "NothingToUndo" CNothingToUndo) (eBusy : Ex0 K mg "Busy" CBusy) : FnG P w K mg base CX0 49 f fd ["_law_low", "_law_high"] (spOthers P w K mg base [CLacking, CLacking, CNotLasting, CNotLasting, CMeddling, CMeddling, CRefused, CRefused, CHeeds, CHeeds, CEndless, CNotComparable, CNothingToUndo, CBusy]) := by
  refine okG F scOthers (fun vs H Q E h => ?_) (fun cdv A outer s H vs Q E hr gd h => ?_)
  · obtain ⟨x, y, _, _, _, _, rfl, _⟩ := h
    rfl
  · obtain ⟨x, y, ax, ay, tx, ty, rfl, sx, sy, k⟩ := h
    obtain ⟨fILacking, BLacking, nwLacking, niLacking, bmLacking, fdLacking, xLacking, kLacking, nLacking⟩ := eLacking
    obtain ⟨fINotLasting, BNotLasting, nwNotLasting, niNotLasting, bmNotLasting, fdNotLasting, xNotLasting, kNotLasting, nNotLasting⟩ := eNotLasting
    obtain ⟨fIMeddling, BMeddling, nwMeddling, niMeddling, bmMeddling, fdMeddling, xMeddling, kMeddling, nMeddling⟩ := eMeddling
    obtain ⟨fIRefused, BRefused, nwRefused, niRefused, bmRefused, fdRefused, xRefused, kRefused, nRefused⟩ := eRefused
    obtain ⟨fIHeeds, BHeeds, nwHeeds, niHeeds, bmHeeds, fdHeeds, xHeeds, kHeeds, n1, n2, n3⟩ := eHeeds
    obtain ⟨BEndless, nwEndless, niEndless, bmEndless, fEndless, qEndless, oEndless, mEndless⟩ := eEndless
    obtain ⟨BNotComparable, nwNotComparable, niNotComparable, bmNotComparable, fNotComparable, qNotComparable, oNotComparable, mNotComparable⟩ := eNotComparable
    obtain ⟨BNothingToUndo, nwNothingToUndo, niNothingToUndo, bmNothingToUndo, fNothingToUndo, qNothingToUndo, oNothingToUndo, mNothingToUndo⟩ := eNothingToUndo
    obtain ⟨BBusy, nwBusy, niBusy, bmBusy, fBusy, qBusy, oBusy, mBusy⟩ := eBusy
    have hr2 := hr.mono (by decide : 2 ≤ 48)
    have hr0 : Room (8 + 40) _ := hr
    have oL := xLacking.O
    have oN := xNotLasting.O
    have oM := xMeddling.O
    have oR := xRefused.O
    have oH := xHeeds.O
    refine ⟨_, (pss_cons (ps_set (i := 2) scOthers.nd rfl (Or.inl rfl) (pe_lst (pa_cons (pe_lst (pa_cons (pX xLacking hr2 (pa_cons (pv 0) pa_nil)) (pa_cons (pXk xLacking kLacking hr2 (pk_cons (pv 0) pk_nil)) pa_nil))) (pa_cons (pe_lst (pa_cons (pX xNotLasting hr2 (pa_cons (pv 0) pa_nil)) (pa_cons (pXk xNotLasting kNotLasting hr2 (pk_cons (pv 0) pk_nil)) pa_nil))) pa_nil))))
      (pss_cons (ps_expr (pe_bm PySem.F.plainAttrs_list PySem.F.slot_list_append PySem.F.type_list_append mt_append (pv 2) (pa_cons (pe_lst (pa_cons (pX xMeddling hr2 (pa_cons (pv 0) pa_nil)) (pa_cons (pXk xMeddling kMeddling hr2 (pk_cons (pv 0) pk_nil)) (pa_cons (pX xRefused hr2 (pa_cons (pv 0) pa_nil)) (pa_cons (pXk xRefused kRefused hr2 (pk_cons (pv 0) pk_nil)) pa_nil))))) pa_nil)))
      (pss_cons (ps_set (i := 3) scOthers.nd rfl (Or.inl rfl) (pe_lst (pa_cons (pe_lc (te := tXat K "name" (tVar 5)) (own := [("_law_e", 5)]) (g := gName 5) rfl scOthers.nd (pi_list (pe_ix ix_list (pv 2) pe_int (fun _ _ => rfl))) (blkOk_by (own := [("_law_e", 5)]) (N := ["_law_low", "_law_high", "_law_made", "_law_told", "_law_heeds", "_law_e"]) (sc := defScope sOthers) (by decide +kernel)) (fun _ _ _ _ _ => pg_name (i := 5) scOthers.nd rfl (Or.inl rfl)) (fun _ _ _ _ _ => pts_nil) (fun _ _ _ _ _ => (pe_xat (pv 5)))) (pa_cons (pe_lc (te := tXat K "rest" (tVar 5)) (own := [("_law_e", 5)]) (g := gName 5) rfl scOthers.nd (pi_list (pe_ix ix_list (pv 2) pe_int (fun _ _ => rfl))) (blkOk_by (own := [("_law_e", 5)]) (N := ["_law_low", "_law_high", "_law_made", "_law_told", "_law_heeds", "_law_e"]) (sc := defScope sOthers) (by decide +kernel)) (fun _ _ _ _ _ => pg_name (i := 5) scOthers.nd rfl (Or.inl rfl)) (fun _ _ _ _ _ => pts_nil) (fun _ _ _ _ _ => (pe_xat (pv 5)))) (pa_cons (pe_lc (te := tXat K "load" (tVar 5)) (own := [("_law_e", 5)]) (g := gName 5) rfl scOthers.nd (pi_list (pe_ix ix_list (pv 2) pe_int (fun _ _ => rfl))) (blkOk_by (own := [("_law_e", 5)]) (N := ["_law_low", "_law_high", "_law_made", "_law_told", "_law_heeds", "_law_e"]) (sc := defScope sOthers) (by decide +kernel)) (fun _ _ _ _ _ => pg_name (i := 5) scOthers.nd rfl (Or.inl rfl)) (fun _ _ _ _ _ => pts_nil) (fun _ _ _ _ _ => (pe_xat (pv 5)))) pa_nil)))))
      (pss_cons (ps_if (pt_cmpR op_ne (pe_callB (call_reprL gd hr0) (by rfl) T.repr PyProof.Rows.boot_repr (pa_cons (pv 3) pa_nil)) (pe_callB (call_reprL gd hr0) (by rfl) T.repr PyProof.Rows.boot_repr (pa_cons (pe_lst (pa_cons (pe_lst (pa_cons (pv 0) (pa_cons (pv 0) pa_nil))) (pa_cons (pe_lst (pa_cons (pv 0) (pa_cons (pv 0) pa_nil))) (pa_cons (pe_lst (pa_cons (pv 0) (pa_cons (pv 0) (pa_cons (pv 0) (pa_cons (pv 0) pa_nil))))) pa_nil)))) pa_nil)) (nomark _)) (pss_one (ps_ret (pe_lst pa_nil))) pss_nil)
      (pss_cons (ps_set (i := 4) scOthers.nd rfl (Or.inl rfl) (pe_lst (pa_cons (pX xHeeds hr2 (pa_cons (pv 0) (pa_cons (pv 1) (pa_cons pe_int pa_nil)))) (pa_cons (pXk xHeeds kHeeds hr2 (pk_cons pe_int (pk_cons (pv 0) (pk_cons (pv 1) pk_nil)))) pa_nil))))
      (pss_cons (ps_if (pt_cmpR op_ne (pe_callB (call_reprL gd hr0) (by rfl) T.repr PyProof.Rows.boot_repr (pa_cons (pe_lc (te := tLst (tCons (tXat K "state" (tVar 5)) (tCons (tXat K "one" (tVar 5)) (tCons (tXat K "other" (tVar 5)) tNil)))) (own := [("_law_e", 5)]) (g := gName 5) rfl scOthers.nd (pi_list (pv 4)) (blkOk_by (own := [("_law_e", 5)]) (N := ["_law_low", "_law_high", "_law_made", "_law_told", "_law_heeds", "_law_e"]) (sc := defScope sOthers) (by decide +kernel)) (fun _ _ _ _ _ => pg_name (i := 5) scOthers.nd rfl (Or.inl rfl)) (fun _ _ _ _ _ => pts_nil) (fun _ _ _ _ _ => (pe_lst (pa_cons (pe_xat (pv 5)) (pa_cons (pe_xat (pv 5)) (pa_cons (pe_xat (pv 5)) pa_nil)))))) pa_nil)) (pe_callB (call_reprL gd hr0) (by rfl) T.repr PyProof.Rows.boot_repr (pa_cons (pe_op op_rep (pe_lst (pa_cons (pe_lst (pa_cons (pv 0) (pa_cons (pv 1) (pa_cons pe_int pa_nil)))) pa_nil)) pe_int) pa_nil)) (nomark _)) (pss_one (ps_ret (pe_lst pa_nil))) pss_nil)
      (pss_one (ps_ret (pe_op op_cat (pe_op op_cat (pe_op op_cat (pe_op op_cat (pe_ix ix_list (pv 2) pe_int (fun _ _ => rfl)) (pe_ix ix_list (pv 2) pe_int (fun _ _ => rfl))) (pe_ix ix_list (pv 2) pe_int (fun _ _ => rfl))) (pv 4)) (pe_lst (pa_cons (pe_xmk0 fEndless qEndless oEndless.kp rfl mEndless) (pa_cons (pe_xmk0 fNotComparable qNotComparable oNotComparable.kp rfl mNotComparable) (pa_cons (pe_xmk0 fNothingToUndo qNothingToUndo oNothingToUndo.kp rfl mNothingToUndo) (pa_cons (pe_xmk0 fBusy qBusy oBusy.kp rfl mBusy) pa_nil)))))))))))))), ?_⟩
    have h0 : Hs H H [] [] := Hs.start0
    repeat walk_at "st"
    have s7 : Shown P w K mg base H [] (.int 7) "7" := ⟨by decide, (fun _ z => nomatch z), fun X _ _ _ _ _ => RV.int (by decide)⟩
    have dom : ∀ b ∈ ax ++ ay, H b ≠ none := fun b hb => (List.mem_append.mp hb).elim (sx.there b) (sy.there b)
    have qx := sx.more dom fun a h => List.mem_append_left _ h
    have qy := sy.more dom fun a h => List.mem_append_right _ h
    have q7 := s7.more dom fun a h => nomatch h
    refine reprRows (tss := [[tx, tx], [tx, tx], [tx, tx, tx, tx]]) (by assumption) (by walk_at "cut") (by walk_at "rows") (by simp) dom rfl rfl rfl rfl rfl fun H1 e1 => ?_
    have h1 := Hs.same (by assumption) e1
    clear e1
    repeat walk_at "st"
    refine reprRows (tss := [[tx, tx], [tx, tx], [tx, tx, tx, tx]]) (by assumption) (by walk_at "cut") (by walk_at "rows") (by simp) dom rfl rfl rfl rfl rfl fun H1 e1 => ?_
    have h1 := Hs.same (by assumption) e1
    clear e1
    repeat walk_at "st"
    refine g_ne ?_
    repeat walk_at "st"
    refine g_iteNF rfl ?_
    repeat walk_at "st"
    refine reprRows (tss := [[tx, ty, "7"], [tx, ty, "7"]]) (by assumption) (by walk_at "cut") (by walk_at "rows") (by simp) dom rfl rfl rfl rfl rfl fun H1 e1 => ?_
    have h1 := Hs.same (by assumption) e1
    clear e1
    repeat walk_at "st"
    refine reprRows (tss := [[tx, ty, "7"], [tx, ty, "7"]]) (by assumption) (by walk_at "cut") (by walk_at "rows") (by simp) dom rfl rfl rfl rfl rfl fun H1 e1 => ?_
    have h1 := Hs.same (by assumption) e1
    clear e1
    repeat walk_at "st"
    refine g_ne ?_
    repeat walk_at "st"
    refine g_iteNF rfl ?_
    repeat walk_at "st"
    rename_i p H1 n1 h1
    exact k p _ H1 (h1.nw _ List.mem_cons_self fun z => nomatch z) h1.kept (h1.on _ List.mem_cons_self) (by repeat (first | exact Paired.nil | refine Paired.cons (show ExIs H1 _ _ from ⟨_, _, rfl, h1.mem (by walk_at "mem"), Or.inr ⟨_, _, rfl, h1.mem (by walk_at "mem")⟩⟩) ?_ | refine Paired.cons (show ExIs H1 _ _ from ⟨_, _, rfl, h1.mem (by walk_at "mem"), Or.inl rfl⟩) ?_))
end My
set_option Elab.async false
set_option maxRecDepth 100000
set_option maxHeartbeats 8000000
namespace My
open PySem PySem.Spec PyProof.Rows L2
/-- the tuple (name, count) stands at v -/
def PairAt (H : Hp) (v : V) (p : Str × Int) : Prop := ∃ u, v = .ref u ∧ H u = some (.tup [.str p.1, .int p.2])
/-- a tuple that is known as the object that it is -/
def TupZ (H : Hp) (t : Addr) (ts : List V) : Prop := ∃ o : Obj, H t = some (.frz o (.tup ts)) ∧ o.dict = Option.none
theorem TupZ.seq {K : PySem.W.Frag} {H : Hp} {t : Addr} {ts : List V} (h : TupZ H t ts) : SqT K H t ts := let ⟨o, e, _⟩ := h; .inl (.inr ⟨o, e⟩)
theorem TupZ.same {H H' : Hp} {t : Addr} {ts : List V} (h : TupZ H t ts) (e : Same H H') : TupZ H' t ts := let ⟨o, z, n⟩ := h; ⟨o, e _ _ z, n⟩
/-- a load with these pairs stands at a -/
def LoadAt (C : Addr) (H : Hp) (a : Addr) (ps : List (Str × Int)) : Prop := ∃ dx t d ts, H a = some (.ins C dx [("_pairs", .ref t), ("_counts", .ref d)]) ∧ TupZ H t ts ∧ Paired (PairAt H) ts ps ∧ H d = some (.dK (ps.map fun p => (Sum.inr p.1, .int p.2)))
def OffP (p : Addr) (H H' : Hp) : Prop := ∀ b o, H b = some o → b ≠ p → H' b = some o
theorem PairAt.off {p : Addr} {H H' : Hp} {v : V} {q : Str × Int} {xs : List V} (h : PairAt H v q) (hp : H p = some (.lst xs)) (o : OffP p H H') : PairAt H' v q := by
  obtain ⟨u, rfl, e⟩ := h
  refine ⟨u, rfl, o _ _ e fun z => ?_⟩
  rw [z, hp] at e
  cases e
theorem pairedMono {α β : Type} {F G : α → β → Prop} (h : ∀ a b, F a b → G a b) : ∀ {as : List α} {bs : List β}, Paired F as bs → Paired G as bs
  | _, _, .nil => .nil
  | _, _, .cons x t => .cons (h _ _ x) (pairedMono h t)
theorem LoadAt.off {C a p : Addr} {H H' : Hp} {ps : List (Str × Int)} {xs : List V} (h : LoadAt C H a ps) (hp : H p = some (.lst xs)) (o : OffP p H H') : LoadAt C H' a ps := by
  obtain ⟨dx, t, d, ts, e1, ⟨ob, e2, nn⟩, pr, e3⟩ := h
  refine ⟨dx, t, d, ts, o _ _ e1 fun z => ?_, ⟨ob, o _ _ e2 fun z => ?_, nn⟩, pairedMono (fun v q h => h.off hp o) pr, o _ _ e3 fun z => ?_⟩
  · rw [z, hp] at e1
    cases e1
  · rw [z, hp] at e2
    cases e2
  · rw [z, hp] at e3
    cases e3
/-- the rest is one tuple: what the maker of a load says -/
def spInit (C : Addr) (OkP : List (Str × Int) → Prop) (Srt : List (Str × Int) → List (Str × Int) → Prop) : Sp := fun vs H Q _ => ∃ x dx q rest ps, vs = [.ref x, .ref q] ∧ H x = some (.ins C dx []) ∧ H dx = some (.own x) ∧ H q = some (.tup rest) ∧ Paired (PairAt H) rest ps ∧ OkP ps ∧
  ∀ H' o qs, Hs H H' [x] [(x, o)] → Srt ps qs → LoadAt C H' x qs → Q .non H'
def spStar1 (sp : Sp) : Sp := fun vs H Q E => ∃ ws rest, vs = ws ++ rest ∧ ws.length = ["self"].length ∧ rest.length ≤ sizeLine ∧ ∀ p, H p = Option.none → sp (ws ++ [V.ref p]) (upd H p (.tup rest)) Q E
abbrev sRight : Stmt := top 79
theorem scRight : FnScope ["_law_source_here", "_law_things", "_law_low", "_law_high", "_law_some", "_law_places", "_law_tops_here", "_law_others_here", "_law_told", "_law_limits", "_law_e"] ["_law_source_here"] (defScope sRight) := ⟨rfl, rfl, rfl, by decide +kernel, rfl, by decide +kernel, by decide +kernel⟩
structure RightK (P : Program) (w : World) (K : PySem.W.Frag) (mg : Str → Option Value) (base : Heap) (kus cus : List Value) (Cs1 Cs2 Cs3 Cs4 : List Addr) where
  f_pull : Addr
  d_pull : FuncData
  pull : FnOk P w K mg base CX0 1 f_pull d_pull ["_law_source_here", "_law_width"] spPull
  m_pull : mg "_law_pull" = some (.ref f_pull)
  k_pull : PySem.W.keepIn K (.ref f_pull) = true
  b_pull : Binds K d_pull ["_law_source_here", "_law_width"] []
  f_values : Addr
  d_values : FuncData
  values : FnOk P w K mg base CX0 3 f_values d_values ["_law_thing"] (spMk Cs1 "value")
  m_values : mg "_law_values" = some (.ref f_values)
  k_values : PySem.W.keepIn K (.ref f_values) = true
  b_values : Binds K d_values ["_law_thing"] []
  f_indexes : Addr
  d_indexes : FuncData
  indexes : FnOk P w K mg base CX0 3 f_indexes d_indexes ["_law_thing"] (spMk Cs2 "index")
  m_indexes : mg "_law_indexes" = some (.ref f_indexes)
  k_indexes : PySem.W.keepIn K (.ref f_indexes) = true
  b_indexes : Binds K d_indexes ["_law_thing"] []
  f_tops : Addr
  d_tops : FuncData
  tops : FnOk P w K mg base CX0 3 f_tops d_tops ["_law_thing"] (spMk Cs3 "limit")
  m_tops : mg "_law_tops" = some (.ref f_tops)
  k_tops : PySem.W.keepIn K (.ref f_tops) = true
  b_tops : Binds K d_tops ["_law_thing"] []
  f_kin : Addr
  d_kin : FuncData
  kin : FnOk P w K mg base CX0 1 f_kin d_kin ["_law_e"] (spKin K kus)
  m_kin : mg "_law_kin" = some (.ref f_kin)
  k_kin : PySem.W.keepIn K (.ref f_kin) = true
  b_kin : Binds K d_kin ["_law_e"] []
  f_classes : Addr
  d_classes : FuncData
  classes : FnOk P w K mg base CX0 1 f_classes d_classes ["_law_e"] (spCls K cus)
  m_classes : mg "_law_classes" = some (.ref f_classes)
  k_classes : PySem.W.keepIn K (.ref f_classes) = true
  b_classes : Binds K d_classes ["_law_e"] []
  f_others : Addr
  d_others : FuncData
  others : FnG P w K mg base CX0 49 f_others d_others ["_law_low", "_law_high"] (spOthers P w K mg base Cs4)
  m_others : mg "_law_others" = some (.ref f_others)
  k_others : PySem.W.keepIn K (.ref f_others) = true
  b_others : Binds K d_others ["_law_low", "_law_high"] []
  T : BltR mg
  len_ : mg "len" = none
  all_ : mg "all" = none
  CLoad : Addr
  fLoad : Addr
  CXi : CXT
  OkP : List (Str × Int) → Prop
  Srt : List (Str × Int) → List (Str × Int) → Prop
  ok1 : OkP [(("a" : Str), 1)]
  srt1 : ∀ qs, Srt [(("a" : Str), 1)] qs → qs = [(("a" : Str), 1)]
  M : Mk K CLoad fLoad
  mLoad : mg "Load" = some (.ref CLoad)
  FI : FnR P w K mg base CXi 20 fLoad (spStar1 (spInit CLoad OkP Srt))
  px : ∀ X : Cx, X.prog = P → X.w = w → Passes CXi X E0
  tLoad : Str
  shown : ∀ H a, LoadAt CLoad H a [(("a" : Str), 1)] → Shown P w K mg base H [] (.ref a) tLoad
  mKINDS : ∃ t, mg "MOST_KINDS" = some (.int 8 t)
  mHANDLERS : ∃ t, mg "MOST_HANDLERS" = some (.int 5 t)
  mSTATES : ∃ t, mg "MOST_STATES" = some (.int 600 t)
  mTERMS : ∃ t, mg "MOST_TERMS" = some (.int 6 t)
  mROWS : ∃ t, mg "MOST_ROWS" = some (.int 20000 t)
  len1 : Cs1.length = 20
  len2 : Cs2.length = 18
  len3 : Cs3.length = 6
  len4 : Cs4.length = 14
  ox : ∀ C ∈ Cs1 ++ Cs2 ++ Cs3 ++ Cs4, (∃ newId bmB, OxC K C newId bmB) ∧ OxI K C
  no1 : ∀ C ∈ Cs1, PySem.W.findIn K (.ref C) "value" = some none
  no2 : ∀ C ∈ Cs2, PySem.W.findIn K (.ref C) "index" = some none
  no3 : ∀ C ∈ Cs3, PySem.W.findIn K (.ref C) "limit" = some none
  kin12 : ∀ C ∈ Cs1 ++ Cs2, Paired (fun u b => PySem.W.kitOne K (.ref C) u = some b) kus [true, false, false, true, false, false]
  kin4 : ∀ C ∈ Cs4, Paired (fun u b => PySem.W.kitOne K (.ref C) u = some b) kus [false, true, false, false, true, false]
  kin3 : ∀ C ∈ Cs3, Paired (fun u b => PySem.W.kitOne K (.ref C) u = some b) kus [false, false, true, false, false, true]
  cls1 : ∀ C ∈ Cs1 ++ Cs2 ++ Cs3 ++ Cs4, ∃ bs, Paired (fun u b => PySem.W.kitOne K (.ref C) u = some b) cus bs ∧ bs.count true = 1
def spRight : Sp := fun vs H Q _ => ∃ p A S, vs = [.ref p] ∧ SrcAt H p A S 0 ∧ ∀ H', OffP p H H' → Q (.bl true) H'
section
variable {K : PySem.W.Frag} {H0 H : Hp} {O : List Addr} {L : List (Addr × HO)} {Q : VK} {σ : L2.St} {te tl : TE} {i : Nat} {p : Addr} {xs : List V}
theorem g_tcall {sp : Sp} {dvs : List V} {E : XK} {t : TA} (h : t σ H fun vs H1 => sp (vs ++ dvs) H1 Q E) : tCall sp dvs E t σ H Q := h
theorem g_mkR {C : Addr} {sp : Sp} {E : XK} {t : TA} (h : t σ H fun vs H1 => ∀ x dx, H1 x = Option.none → H1 dx = Option.none → dx ≠ x →
  sp (V.ref x :: vs) (upd (upd H1 dx (.own x)) x (.ins C dx [])) (fun v H2 => v = .non ∧ Q (.ref x) H2) E) : StX.tMakeR C sp E t σ H Q := h
theorem g_tb {R : Bool → Hp → Prop} (h : te σ H fun x H' => ∃ k, x = .bl k ∧ R k H') : tB te σ H R := h
theorem g_un {r : V → Hp → VK → Prop} {ta : TE} (h : ta σ H fun x H1 => r x H1 Q) : tUn r ta σ H Q := h
theorem g_rU {g : Int → V} {n : Int} (h : Q (g n) H) : rU g (.int n) H Q := ⟨n, rfl, h⟩
theorem g_catD {l b : Addr} {xs zs : List V} (hs : Hs H0 H O L) (e1 : H l = some (.lst xs)) (e2 : H b = some (.lst zs)) (hz : xs.length + zs.length ≤ 100000) (h : ∀ p H1, H p = none → Hs H0 H1 O ((p, .lst (xs ++ zs)) :: L) → Q (.ref p) H1) : rCat (.ref l) (.ref b) H Q :=
  ⟨l, b, xs, zs, rfl, rfl, e1, e2, Nat.le_trans hz (by decide), fun p hp => h p _ hp (hs.new hp)⟩
theorem g_lcD (f : V → V) (hs : Hs H0 H O L) (e : H p = some (.lst xs)) (hl : xs.length ≤ 40000) (he : ∀ (j : Nat) (x : V) (H1 : Hp), xs[j]? = some x → Same H H1 → ∀ R : VK, (∀ H2, Same H1 H2 → R (f x) H2) → te ((wipe σ [i]).set i (some x)) H1 R)
    (k : ∀ D H1, H D = none → Hs H0 H1 O ((D, .lst (xs.map f)) :: L) → Q (.ref D) H1) : LcAt K te i σ Q (.ref p) H := by
  refine ⟨p, rfl, ⟨xs, SqL.of e⟩, fun D hD => lc_list (xs := xs) (fun j H1 => Same H H1 ∧ H1 D = some (.lst ((xs.take j).map f))) ⟨fun b o q => by rw [upd_ne (ne_of_none q hD)]; exact q, upd_same⟩ (fun j H1 _ q => SqL.of (q.1 _ _ e)) (fun j x H1 hx q => ?_) (fun H1 q => ?_)⟩
  · obtain ⟨s1, d1⟩ := q
    refine ⟨wipe1 σ i _, ?_⟩
    unfold tYes
    refine iteT (he j x H1 hx s1 _ fun H2 s2 => ⟨_, s2 _ _ d1, ?_, fun b o z => ?_, ?_⟩)
    · rw [List.length_map]
      exact Nat.lt_of_le_of_lt (Nat.le_trans (List.length_take_le' _ _) hl) (by decide)
    · rw [upd_ne (ne_of_none z hD)]
      exact s2 _ _ (s1 _ _ z)
    · rw [upd_same, List.take_add_one, hx, List.map_append]
      rfl
  · obtain ⟨s1, d1⟩ := q
    rw [List.take_length] at d1
    exact k D H1 hD (hs.add s1 hD d1)
theorem pairedAt {α β : Type} {F : α → β → Prop} : ∀ {as : List α} {bs : List β} {j : Nat} {a : α}, Paired F as bs → as[j]? = some a → ∃ b ∈ bs, F a b
  | _, _, 0, _, .cons h _, e => by
    simp at e
    subst e
    exact ⟨_, List.mem_cons_self, h⟩
  | _, _, j + 1, _, .cons _ t, e => by
    obtain ⟨b, m, h⟩ := pairedAt (j := j) t (by simpa using e)
    exact ⟨b, List.mem_cons_of_mem _ m, h⟩
  | _, _, _, _, .nil, e => by simp at e
theorem pairedApp {α β : Type} {F : α → β → Prop} : ∀ {as cs : List α} {bs ds : List β}, Paired F as bs → Paired F cs ds → Paired F (as ++ cs) (bs ++ ds)
  | _, _, _, _, .nil, q => q
  | _, _, _, _, .cons h t, q => .cons h (pairedApp t q)
theorem ExAt.is {H : Hp} {f : Str} {v u : V} {C : Addr} (h : ExAt H f v u C) : ExIs H u C := by
  obtain ⟨a, d, e, h1, h2⟩ := h
  exact ⟨a, some d, e, h1, .inr ⟨d, _, rfl, h2⟩⟩
theorem ExAt.same {H H' : Hp} {f : Str} {v u : V} {C : Addr} (h : ExAt H f v u C) (s : Same H H') : ExAt H' f v u C := by
  obtain ⟨a, d, e, h1, h2⟩ := h
  exact ⟨a, d, e, s _ _ h1, s _ _ h2⟩
theorem ExIs.same {H H' : Hp} {u : V} {C : Addr} (h : ExIs H u C) (s : Same H H') : ExIs H' u C := by
  obtain ⟨a, d, e, h1, h2⟩ := h
  refine ⟨a, d, e, s _ _ h1, ?_⟩
  rcases h2 with z | ⟨dx, fs, z, q⟩
  · exact .inl z
  · exact .inr ⟨dx, fs, z, s _ _ q⟩
theorem attrAll {us : List V} {Cs : List Addr} {f : Str} {v : V} (pr : Paired (ExAt H f v) us Cs) (ox : ∀ C ∈ Cs, ∃ newId bmB, OxC K C newId bmB) (no : ∀ C ∈ Cs, PySem.W.findIn K (.ref C) f = some none) {j : Nat} {x : V} (hx : us[j]? = some x) {H1 : Hp} (e : Same H H1) {R : VK} (k : R v H1) : XatAt K f x H1 R := by
  obtain ⟨C, hC, a, d, rfl, h1, h2⟩ := pairedAt pr hx
  obtain ⟨newId, bmB, O⟩ := ox C hC
  exact ⟨a, C, d, [(f, v)], v, newId, bmB, rfl, O, no C hC, e _ _ h1, e _ _ h2, by simp [List.lookup], k⟩
theorem isE_of {u : V} {C : Addr} (h : ExIs H u C) (ox : (∃ newId bmB, OxC K C newId bmB) ∧ OxI K C) : ∃ a, u = .ref a ∧ IsE K H a C := by
  obtain ⟨a, d, e, h1, h2⟩ := h
  exact ⟨a, e, ox.1, ox.2, d, h1, h2⟩
theorem g_all {us : List V} {D : Addr} (hs : Hs H0 H O L) (m : (D, .lst (us.map fun _ => V.bl true)) ∈ L) (q : Q (.bl true) H) : rAll K [.ref D] H Q := by
  refine ⟨D, us.map fun _ => true, rfl, ?_, ?_⟩
  · rw [List.map_map]
    exact SqL.of (hs.mem m)
  · have e : (us.map fun _ => true).all id = true := by simp
    rw [e]
    exact q
theorem dpB : ∀ bs : List Bool, DpAll K H (bs.map V.bl) (bs.map PyData.bool)
  | [] => .nil
  | b :: bs => .cons (.bl b) (dpB bs)
theorem dpI : ∀ bs : List Int, DpAll K H (bs.map V.int) (bs.map PyData.int)
  | [] => .nil
  | b :: bs => .cons (.int b) (dpI bs)
theorem g_eqB {a b : Addr} (bs : List Bool) (h1 : H a = some (.lst (bs.map V.bl))) (h2 : H b = some (.lst (bs.map V.bl))) (s : SeqAt.shaped (.list (bs.map PyData.bool)) = true) (e : PyData.eqv (.list (bs.map PyData.bool)) (.list (bs.map PyData.bool)) = true) (q : Q (.bl true) H) : rEqD K (.ref a) (.ref b) H Q :=
  ⟨_, _, Dp.lst (SqL.of h1) (dpB bs), Dp.lst (SqL.of h2) (dpB bs), s, s, by rw [e]; exact q⟩
theorem g_neI {a b : Addr} (bs : List Int) (h1 : H a = some (.lst (bs.map V.int))) (h2 : H b = some (.lst (bs.map V.int))) (s : SeqAt.shaped (.list (bs.map PyData.int)) = true) (e : PyData.eqv (.list (bs.map PyData.int)) (.list (bs.map PyData.int)) = true) (q : Q (.bl false) H) : rNeD K (.ref a) (.ref b) H Q :=
  ⟨_, _, Dp.lst (SqL.of h1) (dpI bs), Dp.lst (SqL.of h2) (dpI bs), s, s, by rw [e]; exact q⟩
theorem g_neIM {a b : Addr} (bs : List Int) (hs : Hs H0 H O L) (m1 : (a, .lst (bs.map V.int)) ∈ L) (m2 : (b, .lst (bs.map V.int)) ∈ L) (s : SeqAt.shaped (.list (bs.map PyData.int)) = true) (e : PyData.eqv (.list (bs.map PyData.int)) (.list (bs.map PyData.int)) = true) (q : Q (.bl false) H) : rNeD K (.ref a) (.ref b) H Q :=
  g_neI bs (hs.mem m1) (hs.mem m2) s e q
theorem g_neInt {i j : Int} (h : Q (.bl (!decide (V.int i = V.int j))) H) : rNe (.int i) (.int j) H Q := ⟨rfl, h⟩
theorem same_map {us : List V} {v : V} {n : Nat} (h : us.length = n) : us.map (fun _ => v) = List.replicate n v := by
  rw [← h]
  exact List.map_const' ..
theorem pairRep {F : V → Str → Prop} {v : V} {t : Str} (h : F v t) : ∀ n, Paired F (List.replicate n v) (List.replicate n t)
  | 0 => .nil
  | n + 1 => .cons h (pairRep h n)
theorem g_ixN {d : Int} {v : V} (hs : Hs H0 H O L) (m : (p, .lst xs) ∈ L) (d0 : 0 ≤ d) (hv : xs[d.toNat]? = some v) (h : Q v H) : rIxL K (.ref p) (.int d) H Q :=
  ⟨p, xs, d, v, rfl, rfl, SqL.of (hs.mem m), (by
    have e : d = ((d.toNat : Nat) : Int) := by omega
    rw [e]
    exact atI_nat hv), h⟩
theorem Hs.offp {q : Addr} (h : Hs H0 H [q] L) : OffP q H0 H := fun b o e n => h.fr b o e fun m => by
  obtain ⟨x, hx, z⟩ := List.mem_map.mp m
  have y := h.nw x hx (fun w => n (by rw [← z]; exact List.mem_singleton.mp w))
  rw [z, e] at y
  cases y
theorem kinStep {kus : List Value} {b0 b1 b2 b3 b4 b5 : Bool} {HC H1 : Hp} {us : List V} {Cs : List Addr} {x : V} {j : Nat} {R : VK} (pr : Paired (ExIs HC) us Cs) (ox : ∀ C ∈ Cs, (∃ newId bmB, OxC K C newId bmB) ∧ OxI K C)
    (kin : ∀ C ∈ Cs, Paired (fun u b => PySem.W.kitOne K (.ref C) u = some b) kus [b0, b1, b2, b3, b4, b5]) (s : SeqAt.shaped (.list ([b0, b1, b2, b3, b4, b5].map PyData.bool)) = true) (ev : PyData.eqv (.list ([b0, b1, b2, b3, b4, b5].map PyData.bool)) (.list ([b0, b1, b2, b3, b4, b5].map PyData.bool)) = true)
    (hx : us[j]? = some x) (e : Same HC H1) (k : ∀ H2, Same H1 H2 → R (.bl true) H2) (hσ : σ[10]? = some (some x)) :
    tOp (rEqD K) (tCall (spKin K kus) [] E0 (tCons (tVar 10) tNil)) (tLst (tCons (tC (.bl b0)) (tCons (tC (.bl b1)) (tCons (tC (.bl b2)) (tCons (tC (.bl b3)) (tCons (tC (.bl b4)) (tCons (tC (.bl b5)) tNil))))))) σ H1 R := by
  obtain ⟨C, hC, ex⟩ := pairedAt pr hx
  obtain ⟨a, rfl, iE⟩ := isE_of (ex.same e) (ox C hC)
  refine g_op (g_tcall (g_cons (g_var hσ (g_nil ?_))))
  refine ⟨a, C, _, rfl, iE, kin C hC, fun p H2 np sm ep => ?_⟩
  have h2 : Hs H2 H2 [] [] := Hs.start0
  refine g_lst (g_cons (g_c (g_cons (g_c (g_cons (g_c (g_cons (g_c (g_cons (g_c (g_cons (g_c (g_nil ?_)))))))))))))
  refine g_newo h2 (by simp) fun q H3 nq h3 => ?_
  exact g_eqB [b0, b1, b2, b3, b4, b5] (h3.kept _ _ ep) (h3.mem List.mem_cons_self) s ev (k H3 (sm.trans h3.kept))
theorem clsStep {cus : List Value} {HC H1 : Hp} {us : List V} {Cs : List Addr} {x : V} {j : Nat} {R : VK} (pr : Paired (ExIs HC) us Cs) (ox : ∀ C ∈ Cs, (∃ newId bmB, OxC K C newId bmB) ∧ OxI K C)
    (cls : ∀ C ∈ Cs, ∃ bs, Paired (fun u b => PySem.W.kitOne K (.ref C) u = some b) cus bs ∧ bs.count true = 1) (hx : us[j]? = some x) (e : Same HC H1) (k : ∀ H2, Same H1 H2 → R (.bl true) H2) (hσ : σ[10]? = some (some x)) :
    tOp rEq (tCall (spCls K cus) [] E0 (tCons (tVar 10) tNil)) (tC (.int 1)) σ H1 R := by
  obtain ⟨C, hC, ex⟩ := pairedAt pr hx
  obtain ⟨a, rfl, iE⟩ := isE_of (ex.same e) (ox C hC)
  obtain ⟨bs, kt, cn⟩ := cls C hC
  refine g_op (g_tcall (g_cons (g_var hσ (g_nil ?_))))
  refine ⟨a, C, bs, rfl, iE, kt, fun H2 sm => g_c ⟨rfl, ?_⟩⟩
  rw [cn]
  exact k H2 sm
section
variable {P : Program} {w : World} {mg : Str → Option Value} {base : Heap} {as : List Addr}
theorem shNon : Shown P w K mg base H [] .non "None" := ⟨by decide, (fun _ z => nomatch z), fun _ _ _ _ _ _ => RV.non⟩
theorem shBl (b : Bool) : Shown P w K mg base H [] (.bl b) (if b then "True" else "False") := ⟨by cases b <;> decide, (fun _ z => nomatch z), fun _ _ _ _ _ _ => RV.bl b⟩
theorem shInt {i : Int} (h1 : ((toString i : String) : Str).length ≤ 3000) (h : i.natAbs.log2 < 1920) : Shown P w K mg base H [] (.int i) (toString i : String) := ⟨h1, (fun _ z => nomatch z), fun _ _ _ _ _ _ => RV.int h⟩
theorem shStr {y : Str} (h1 : (reprText y).length ≤ 3000) : Shown P w K mg base H [] (.str y) (reprText y) := ⟨h1, (fun _ z => nomatch z), fun _ _ _ _ _ _ => RV.str (Nat.le_trans h1 (by decide))⟩
theorem shTup {a : Addr} {xs : List V} {ts : List Str} (e : H a = some (.tup xs)) (hl : ts.length = xs.length) (h : ∀ (i : Nat) (x : V) (t : Str), xs[i]? = some x → ts[i]? = some t → ∀ u, RelV x u → ReprIs P w u t) (h1 : (tupleText ts).length ≤ 3000) : Shown P w K mg base H [a] (.ref a) (tupleText ts) :=
  ⟨h1, (fun b hb q => by rw [List.mem_singleton.mp hb, e] at q; cases q), fun X e1 e2 _ _ _ => (RV.tup (d := 1) e hl (fun i x t h3 h4 u r => by rw [e1, e2]; exact h i x t h3 h4 u r)).mono (Same.refl H) (fun b hb => hb) (Nat.le_refl 2)⟩
theorem shList1 {a : Addr} {i : Int} (e : H a = some (.lst [.int i])) (h1 : (listText [((toString i : String) : Str)]).length ≤ 3000) (h : i.natAbs.log2 < 1920) : Shown P w K mg base H [a] (.ref a) (listText [((toString i : String) : Str)]) :=
  ⟨h1, (fun b hb q => by rw [List.mem_singleton.mp hb, e] at q; cases q), fun X _ _ _ _ _ => (RV.list (d := 0) (as := []) e rfl (fun j x t h3 h4 => by
    match j with
    | 0 =>
      simp at h3 h4
      subst h3 h4
      exact RV.int h
    | j + 1 => simp at h3) (fun z => nomatch z)).mono (Same.refl H) (fun b hb => hb) (by decide)⟩
end
end

local macro_rules | `(tactic| walk_at "cond") => `(tactic| first
  | exact Or.inr ⟨by decide, by decide⟩ | exact Or.inl ⟨by decide, by decide⟩ | exact ⟨by decide, by decide, by decide⟩ | exact ⟨by decide, by decide⟩
  | (refine Or.inl ⟨?_, ?_⟩ <;> omega) | (refine Or.inr ⟨?_, ?_⟩ <;> omega)
  | (show (0 : Int) < _; omega))
local macro_rules | `(tactic| walk_at "mem") => `(tactic| first | exact List.Mem.head _ | exact List.Mem.tail _ (List.Mem.head _) | exact Put.head | (refine List.Mem.tail _ ?_; walk_at "mem") | (apply Put.tail; walk_at "mem"))
local macro_rules | `(tactic| walk_at "st") => `(tactic| first
  | with_reducible refine g_seq ?_ | with_reducible refine g_asg ?_ | with_reducible refine g_name ?_ | ((with_reducible show tVar _ _ _ _); refine g_var rfl ?_) | with_reducible refine g_c ?_
  | with_reducible refine g_op ?_ | with_reducible refine g_test ?_ | with_reducible refine g_bl ?_
  | with_reducible refine g_cb ?_ | with_reducible refine g_cons ?_ | with_reducible refine g_nil ?_ | with_reducible refine g_tif ?_ | with_reducible refine g_ifs ?_ | with_reducible refine g_ret ?_
  | with_reducible refine g_drop ?_ | with_reducible refine g_next ?_
  | with_reducible refine g_i0 ?_ | ((with_reducible show rI _ _ _ _ _ _); refine g_i (by walk_at "cond") ?_) | with_reducible refine g_int ?_ | with_reducible refine g_abs ?_ | with_reducible refine g_or ?_
  | with_reducible refine g_and ?_ | with_reducible refine g_not ?_ | with_reducible refine g_lst ?_ | with_reducible refine g_tup ?_
  | with_reducible refine iteT ?_ | with_reducible refine iteF ?_ | with_reducible refine g_par ?_ | with_reducible refine g_two ?_ | with_reducible refine g_sub ?_
  | ((with_reducible show rIxL _ (V.ref _) (V.int _) _ _); refine g_ixM (by assumption) (by walk_at "mem") rfl rfl ?_)
  | ((with_reducible show rSetL (V.ref _) (V.int _) _ _ _); refine g_setM (by assumption) rfl (by walk_at "mem") fun _ _ => ?_)
  | with_reducible refine g_xmk ?_ | with_reducible refine g_xmkK ?_
  | ((with_reducible show XNew _ (spI1 _ _) _ _ _); refine g_x1 (by assumption) fun _ _ _ _ => ?_)
  | ((with_reducible show XNewK _ _ (spI1 _ _) _ _ _ _); refine g_x1k (by assumption) fun _ _ _ _ => ?_)
  | ((with_reducible show XNew _ (spI3 _ _ _ _) _ _ _); refine g_x3 (by assumption) fun _ _ _ _ => ?_)
  | ((with_reducible show tXmk0 _ _ _ _); refine g_xmk0 (by assumption) fun _ _ _ => ?_)
  | ((with_reducible show NewO _ _ _ _); refine g_newo (by assumption) (by first | decide | simp) fun _ _ _ _ => ?_)
  | ((with_reducible show rCat (V.ref _) (V.ref _) _ _); refine g_cat (by assumption) (by walk_at "mem") (by walk_at "mem") (by first | decide | simp) fun _ _ _ _ => ?_)
  | ((with_reducible show tLc _ _ _ _ _ _ _ _); refine g_lc ?_)
  | ((with_reducible show LcAt _ _ _ _ _ (V.ref _) _); refine g_lcU (by assumption) (by walk_at "mem") fun _ _ _ _ => ?_)
  | ((with_reducible show Run _ _ _ _ _ _ _ _ (_ :: _) _); refine g_run (by assumption) (by walk_at "mem") ?_)
  | ((with_reducible show Run _ _ _ _ _ _ _ _ [] _); refine g_run0 (by assumption) (by walk_at "mem") ?_)
  | ((with_reducible show ∃ a, _ = some (HO.lst a) ∧ _); refine g_acc (by assumption) (by walk_at "mem") (by first | decide | simp) fun _ _ => ?_)
  | with_reducible refine g_xat ?_
  | ((with_reducible show XatAt _ _ (V.ref _) _ _); refine g_xatH (by assumption) (by walk_at "mem") (by walk_at "mem") (by assumption) (by assumption) (by with_unfolding_all rfl) ?_)
  | ((with_reducible show rRep (V.ref _) (V.int _) _ _); refine g_rep (by assumption) (by walk_at "mem") (by decide) (by decide) (by first | decide | simp) fun _ _ _ _ => ?_)
  | with_reducible refine g_bm2 ?_
  | ((with_reducible show tyV _ "list" (V.ref _) _ ∧ _); refine g_tyL (by assumption) (by walk_at "mem") ?_)
  | ((with_reducible show rAppend (V.ref _) [_] _ _); refine g_app (by assumption) (by walk_at "mem") (by first | decide | simp) fun _ _ => ?_))

local macro_rules | `(tactic| walk_at "st") => `(tactic| ((with_reducible show XNewK _ _ (spI3 _ _ _ _) _ _ _ _); refine g_x3k (by assumption) rfl (fun _ => rfl) fun _ _ _ _ => ?_))
local macro_rules | `(tactic| walk_at "pair") => `(tactic| first | exact Paired.nil | (refine Paired.cons (by assumption) ?_; walk_at "pair"))
local macro_rules | `(tactic| walk_at "rows") => `(tactic| first | exact Rows.nil | (refine Rows.cons (by walk_at "mem") (by walk_at "pair") (by simp) ?_; walk_at "rows"))
local macro_rules | `(tactic| walk_at "cut") => `(tactic| first | exact Cut.head | (apply Cut.tail; walk_at "cut"))

theorem ok_right {P : Program} {w : World} {K : PySem.W.Frag} {mg : Str → Option Value} {base : Heap} {kus cus : List Value} {Cs1 Cs2 Cs3 Cs4 : List Addr} {f : Addr} {fd : FuncData} (F : Fun K "_law_right" "_law_right" sRight f fd)
    (R : RightK P w K mg base kus cus Cs1 Cs2 Cs3 Cs4) : FnG P w K mg base CX0 50 f fd ["_law_source_here"] spRight := by
  refine okG F scRight (fun vs H Q E h => ?_) (fun cdv A outer s H vs Q E hr gd h => ?_)
  · obtain ⟨p, _, _, rfl, _⟩ := h
    rfl
  · obtain ⟨p, A0, S0, rfl, src, k⟩ := h
    have hr1 := hr.mono (by decide : 1 ≤ 49)
    have hr3 := hr.mono (by decide : 3 ≤ 49)
    have hr4 := hr.mono (by decide : 21 ≤ 49)
    have hr0 : Room (8 + 40) _ := hr.mono (by decide : 48 ≤ 49)
    have lKINDS := R.mKINDS
    have lHANDLERS := R.mHANDLERS
    have lSTATES := R.mSTATES
    have lTERMS := R.mTERMS
    have lROWS := R.mROWS
    refine ⟨_, (pss_cons (ps_set (i := 1) scRight.nd rfl (Or.inl rfl) (pe_lst (pa_cons pe_non (pa_cons pe_int (pa_cons pe_bl (pa_cons pe_str (pa_cons (pe_tup (pa_cons pe_int (pa_cons pe_str pa_nil))) (pa_cons (pe_lst (pa_cons pe_int pa_nil)) (pa_cons (StX.pe_makeR R.M R.FI hr4 rfl R.mLoad (R.px _ rfl rfl) (pa_cons (pe_tup (pa_cons pe_str (pa_cons pe_int pa_nil))) pa_nil)) (pa_cons (pe_op op_pow pe_int pe_int) (pa_cons (pe_tup pa_nil) (pa_cons (pe_un un_neg pe_int) pa_nil))))))))))))
      (pss_cons (ps_par rfl scRight.nd (i := 2) (j := 3) rfl rfl (by decide) rfl rfl (pa_cons (pe_ix ix_list (pv 1) (pe_call R.pull hr1 rfl R.m_pull R.k_pull R.b_pull .nil pass0 (pa_cons (pv 0) (pa_cons pe_int pa_nil))) (fun _ _ => rfl)) (pa_cons (pe_ix ix_list (pv 1) (pe_call R.pull hr1 rfl R.m_pull R.k_pull R.b_pull .nil pass0 (pa_cons (pv 0) (pa_cons pe_int pa_nil))) (fun _ _ => rfl)) pa_nil)) (by rfl))
      (pss_cons (ps_par rfl scRight.nd (i := 4) (j := 5) rfl rfl (by decide) rfl rfl (pa_cons (pe_call R.values hr3 rfl R.m_values R.k_values R.b_values .nil pass0 (pa_cons (pv 2) pa_nil)) (pa_cons (pe_call R.indexes hr3 rfl R.m_indexes R.k_indexes R.b_indexes .nil pass0 (pa_cons (pv 2) pa_nil)) pa_nil)) (by rfl))
      (pss_cons (ps_par rfl scRight.nd (i := 6) (j := 7) rfl rfl (by decide) rfl rfl (pa_cons (pe_call R.tops hr3 rfl R.m_tops R.k_tops R.b_tops .nil pass0 (pa_cons (pv 2) pa_nil)) (pa_cons (pe_callG R.others hr gd rfl R.m_others R.k_others R.b_others pass0 (pa_cons (pv 2) (pa_cons (pv 3) pa_nil))) pa_nil)) (by rfl))
      (pss_cons (ps_set (i := 8) scRight.nd rfl (Or.inl rfl) (pe_lst (pa_cons (pe_lc (te := tXat K "value" (tVar 10)) (own := [("_law_e", 10)]) (g := gName 10) rfl scRight.nd (pi_list (pv 4)) (blkOk_by (own := [("_law_e", 10)]) (N := ["_law_source_here", "_law_things", "_law_low", "_law_high", "_law_some", "_law_places", "_law_tops_here", "_law_others_here", "_law_told", "_law_limits", "_law_e"]) (sc := defScope sRight) (by decide +kernel)) (fun _ _ _ _ _ => pg_name (i := 10) scRight.nd rfl (Or.inl rfl)) (fun _ _ _ _ _ => pts_nil) (fun _ _ _ _ _ => (pe_xat (pv 10)))) (pa_cons (pe_lc (te := tXat K "index" (tVar 10)) (own := [("_law_e", 10)]) (g := gName 10) rfl scRight.nd (pi_list (pv 5)) (blkOk_by (own := [("_law_e", 10)]) (N := ["_law_source_here", "_law_things", "_law_low", "_law_high", "_law_some", "_law_places", "_law_tops_here", "_law_others_here", "_law_told", "_law_limits", "_law_e"]) (sc := defScope sRight) (by decide +kernel)) (fun _ _ _ _ _ => pg_name (i := 10) scRight.nd rfl (Or.inl rfl)) (fun _ _ _ _ _ => pts_nil) (fun _ _ _ _ _ => (pe_xat (pv 10)))) (pa_cons (pe_lc (te := tXat K "limit" (tVar 10)) (own := [("_law_e", 10)]) (g := gName 10) rfl scRight.nd (pi_list (pv 6)) (blkOk_by (own := [("_law_e", 10)]) (N := ["_law_source_here", "_law_things", "_law_low", "_law_high", "_law_some", "_law_places", "_law_tops_here", "_law_others_here", "_law_told", "_law_limits", "_law_e"]) (sc := defScope sRight) (by decide +kernel)) (fun _ _ _ _ _ => pg_name (i := 10) scRight.nd rfl (Or.inl rfl)) (fun _ _ _ _ _ => pts_nil) (fun _ _ _ _ _ => (pe_xat (pv 10)))) pa_nil)))))
      (pss_cons (ps_if (pt_cmpR op_ne (pe_callB (call_reprL gd hr0) (by rfl) R.T.repr PyProof.Rows.boot_repr (pa_cons (pv 8) pa_nil)) (pe_callB (call_reprL gd hr0) (by rfl) R.T.repr PyProof.Rows.boot_repr (pa_cons (pe_lst (pa_cons (pe_op op_rep (pe_lst (pa_cons (pv 2) pa_nil)) pe_int) (pa_cons (pe_op op_rep (pe_lst (pa_cons (pv 2) pa_nil)) pe_int) (pa_cons (pe_op op_rep (pe_lst (pa_cons (pv 2) pa_nil)) pe_int) pa_nil)))) pa_nil)) (nomark _)) (pss_one (ps_ret pe_bl)) pss_nil)
      (pss_cons (ps_if (pt_cmpR op_ne (pLen R.len_ (pv 7)) pe_int (nomark _)) (pss_one (ps_ret pe_bl)) pss_nil)
      (pss_cons (ps_if (pt_not (pt_val (pe_callB (cr_all rfl) (by rfl) R.all_ PyProof.Rows.boot_all (pa_cons (pe_lc (te := tOp (rEqD K) (tCall (spKin K kus) [] E0 (tCons (tVar 10) tNil)) (tLst (tCons (tC (.bl true)) (tCons (tC (.bl false)) (tCons (tC (.bl false)) (tCons (tC (.bl true)) (tCons (tC (.bl false)) (tCons (tC (.bl false)) tNil)))))))) (own := [("_law_e", 10)]) (g := gName 10) rfl scRight.nd (pi_list (pe_op op_cat (pv 4) (pv 5))) (blkOk_by (own := [("_law_e", 10)]) (N := ["_law_source_here", "_law_things", "_law_low", "_law_high", "_law_some", "_law_places", "_law_tops_here", "_law_others_here", "_law_told", "_law_limits", "_law_e"]) (sc := defScope sRight) (by decide +kernel)) (fun _ _ _ _ _ => pg_name (i := 10) scRight.nd rfl (Or.inl rfl)) (fun _ _ _ _ _ => pts_nil) (fun _ _ _ _ _ => (pe_cmpR (op_eqD hr1.units) (pe_call R.kin hr1 rfl R.m_kin R.k_kin R.b_kin .nil pass0 (pa_cons (pv 10) pa_nil)) (pe_lst (pa_cons pe_bl (pa_cons pe_bl (pa_cons pe_bl (pa_cons pe_bl (pa_cons pe_bl (pa_cons pe_bl pa_nil))))))) (nomark _)))) pa_nil)))) (pss_one (ps_ret pe_bl)) pss_nil)
      (pss_cons (ps_if (pt_not (pt_val (pe_callB (cr_all rfl) (by rfl) R.all_ PyProof.Rows.boot_all (pa_cons (pe_lc (te := tOp (rEqD K) (tCall (spKin K kus) [] E0 (tCons (tVar 10) tNil)) (tLst (tCons (tC (.bl false)) (tCons (tC (.bl true)) (tCons (tC (.bl false)) (tCons (tC (.bl false)) (tCons (tC (.bl true)) (tCons (tC (.bl false)) tNil)))))))) (own := [("_law_e", 10)]) (g := gName 10) rfl scRight.nd (pi_list (pv 7)) (blkOk_by (own := [("_law_e", 10)]) (N := ["_law_source_here", "_law_things", "_law_low", "_law_high", "_law_some", "_law_places", "_law_tops_here", "_law_others_here", "_law_told", "_law_limits", "_law_e"]) (sc := defScope sRight) (by decide +kernel)) (fun _ _ _ _ _ => pg_name (i := 10) scRight.nd rfl (Or.inl rfl)) (fun _ _ _ _ _ => pts_nil) (fun _ _ _ _ _ => (pe_cmpR (op_eqD hr1.units) (pe_call R.kin hr1 rfl R.m_kin R.k_kin R.b_kin .nil pass0 (pa_cons (pv 10) pa_nil)) (pe_lst (pa_cons pe_bl (pa_cons pe_bl (pa_cons pe_bl (pa_cons pe_bl (pa_cons pe_bl (pa_cons pe_bl pa_nil))))))) (nomark _)))) pa_nil)))) (pss_one (ps_ret pe_bl)) pss_nil)
      (pss_cons (ps_if (pt_not (pt_val (pe_callB (cr_all rfl) (by rfl) R.all_ PyProof.Rows.boot_all (pa_cons (pe_lc (te := tOp (rEqD K) (tCall (spKin K kus) [] E0 (tCons (tVar 10) tNil)) (tLst (tCons (tC (.bl false)) (tCons (tC (.bl false)) (tCons (tC (.bl true)) (tCons (tC (.bl false)) (tCons (tC (.bl false)) (tCons (tC (.bl true)) tNil)))))))) (own := [("_law_e", 10)]) (g := gName 10) rfl scRight.nd (pi_list (pv 6)) (blkOk_by (own := [("_law_e", 10)]) (N := ["_law_source_here", "_law_things", "_law_low", "_law_high", "_law_some", "_law_places", "_law_tops_here", "_law_others_here", "_law_told", "_law_limits", "_law_e"]) (sc := defScope sRight) (by decide +kernel)) (fun _ _ _ _ _ => pg_name (i := 10) scRight.nd rfl (Or.inl rfl)) (fun _ _ _ _ _ => pts_nil) (fun _ _ _ _ _ => (pe_cmpR (op_eqD hr1.units) (pe_call R.kin hr1 rfl R.m_kin R.k_kin R.b_kin .nil pass0 (pa_cons (pv 10) pa_nil)) (pe_lst (pa_cons pe_bl (pa_cons pe_bl (pa_cons pe_bl (pa_cons pe_bl (pa_cons pe_bl (pa_cons pe_bl pa_nil))))))) (nomark _)))) pa_nil)))) (pss_one (ps_ret pe_bl)) pss_nil)
      (pss_cons (ps_set (i := 9) scRight.nd rfl (Or.inl rfl) (pe_lst (pa_cons (pe_glob (v := .int 8) rfl lKINDS.choose_spec ⟨_, rfl⟩) (pa_cons (pe_glob (v := .int 5) rfl lHANDLERS.choose_spec ⟨_, rfl⟩) (pa_cons (pe_glob (v := .int 600) rfl lSTATES.choose_spec ⟨_, rfl⟩) (pa_cons (pe_glob (v := .int 6) rfl lTERMS.choose_spec ⟨_, rfl⟩) (pa_cons (pe_glob (v := .int 20000) rfl lROWS.choose_spec ⟨_, rfl⟩) pa_nil)))))))
      (pss_cons (ps_if (pt_cmpR (op_neD hr1.units) (pv 9) (pe_lst (pa_cons pe_int (pa_cons pe_int (pa_cons pe_int (pa_cons pe_int (pa_cons pe_int pa_nil)))))) (nomark _)) (pss_one (ps_ret pe_bl)) pss_nil)
      (pss_one (ps_ret (pe_callB (cr_all rfl) (by rfl) R.all_ PyProof.Rows.boot_all (pa_cons (pe_lc (te := tOp rEq (tCall (spCls K cus) [] E0 (tCons (tVar 10) tNil)) (tC (.int 1))) (own := [("_law_e", 10)]) (g := gName 10) rfl scRight.nd (pi_list (pe_op op_cat (pe_op op_cat (pe_op op_cat (pv 4) (pv 5)) (pv 6)) (pv 7))) (blkOk_by (own := [("_law_e", 10)]) (N := ["_law_source_here", "_law_things", "_law_low", "_law_high", "_law_some", "_law_places", "_law_tops_here", "_law_others_here", "_law_told", "_law_limits", "_law_e"]) (sc := defScope sRight) (by decide +kernel)) (fun _ _ _ _ _ => pg_name (i := 10) scRight.nd rfl (Or.inl rfl)) (fun _ _ _ _ _ => pts_nil) (fun _ _ _ _ _ => (pe_cmpR op_eq (pe_call R.classes hr1 rfl R.m_classes R.k_classes R.b_classes .nil pass0 (pa_cons (pv 10) pa_nil)) pe_int (nomark _)))) pa_nil)))))))))))))))), ?_⟩
    have h0 : Hs H H [p] [(p, .lst [.int A0, .int S0, .int 0])] := Hs.start src.at_
    repeat (first | walk_at "st" | with_reducible refine g_mkR ?_)
    rename_i t5 Ha n5 h5 l6 Hb n6 h6 tq Hc nq hq
    intro x dx nx nd ne
    have g1 := (hq.new (o := .own x) nd).new (p := x) (o := .ins R.CLoad dx []) (by rw [upd_ne (fun z => ne z.symm)]; exact nx)
    refine ⟨[.ref x], [.ref tq], rfl, rfl, (show 1 ≤ sizeLine by decide), fun q nq2 => ?_⟩
    have g2 := g1.new (o := .tup [.ref tq]) nq2
    refine ⟨x, dx, q, [.ref tq], [("a", 1)], rfl, g2.mem (by walk_at "mem"), g2.mem (by walk_at "mem"), g2.mem (by walk_at "mem"), .cons ⟨tq, rfl, g2.mem (by walk_at "mem")⟩ .nil, R.ok1, fun H3 o qs hs3 so la => ⟨rfl, ?_⟩⟩
    rw [R.srt1 qs so] at la
    have g3 := g2.call1 (o' := o) (by walk_at "mem") hs3
    have ep : H3 p = some (.lst [.int A0, .int S0, .int 0]) := g3.mem (by walk_at "mem")
    have e5 : H3 t5 = some (.tup [.int 1, .str "b"]) := g3.mem (by walk_at "mem")
    have e6 : H3 l6 = some (.lst [.int 2]) := g3.mem (by walk_at "mem")
    have off3 : OffP p H H3 := g3.offp
    clear h0 h5 h6 hq g1 g2 g3 hs3
    have h3 : Hs H3 H3 [p] [(p, .lst [.int A0, .int S0, .int 0])] := Hs.start ep
    repeat (first | walk_at "st" | with_reducible refine g_un ?_ | with_reducible refine g_rU ?_ | with_reducible refine g_tcall ?_ | with_reducible refine g_tb ?_)
    rename_i t8 Hd n8 h8 lt He nt ht
    refine ⟨p, 10, A0, S0, 0, rfl, by decide, by decide, ⟨ht.mem (by walk_at "mem"), src.a0, src.s0, src.s1, src.c0⟩, fun d1 A1 S1 c1 Hf d10 d11 hs4 src1 => ?_⟩
    have hf := ht.call1 (by walk_at "mem") hs4
    have lt1 : d1.toNat < 10 := by omega
    obtain ⟨lo, hlo⟩ : ∃ v, [V.non, V.int 0, V.bl true, V.str "a", V.ref t5, V.ref l6, V.ref x, V.int (10 ^ Int.toNat 40), V.ref t8, V.int (-1)][d1.toNat]? = some v := ⟨_, List.getElem?_eq_getElem (by simpa using lt1)⟩
    refine g_ixN hf (by walk_at "mem") d10 hlo ?_
    clear hs4
    repeat (first | walk_at "st" | with_reducible refine g_tcall ?_ | with_reducible refine g_tb ?_)
    refine ⟨p, 10, A1, S1, c1, rfl, by decide, by decide, src1, fun d2 A2 S2 c2 Hg d20 d21 hs5 src2 => ?_⟩
    have hg := hf.call1 (by walk_at "mem") hs5
    have lt2 : d2.toNat < 10 := by omega
    obtain ⟨hi, hhi⟩ : ∃ v, [V.non, V.int 0, V.bl true, V.str "a", V.ref t5, V.ref l6, V.ref x, V.int (10 ^ Int.toNat 40), V.ref t8, V.int (-1)][d2.toNat]? = some v := ⟨_, List.getElem?_eq_getElem (by simpa using lt2)⟩
    refine g_ixN hg (by walk_at "mem") d20 hhi ?_
    clear hs5
    repeat (first | walk_at "st" | with_reducible refine g_tcall ?_ | with_reducible refine g_tb ?_)
    have offg : OffP p H3 Hg := hg.offp
    have off : OffP p H Hg := fun b o e n => offg b o (off3 b o e n) n
    have f5 : Hg t5 = some (.tup [.int 1, .str "b"]) := offg _ _ e5 fun z => by
      rw [z, ep] at e5
      cases e5
    have f6 : Hg l6 = some (.lst [.int 2]) := offg _ _ e6 fun z => by
      rw [z, ep] at e6
      simp at e6
    have f8 : Hg t8 = some (.tup []) := hg.mem (by walk_at "mem")
    have lg := la.off ep offg
    have sh : ∀ v ∈ [V.non, V.int 0, V.bl true, V.str "a", V.ref t5, V.ref l6, V.ref x, V.int (10 ^ Int.toNat 40), V.ref t8, V.int (-1)], ∃ as t, Shown P w K mg base Hg as v t := by
      intro v hv
      rcases List.mem_cons.mp hv with rfl | hv
      · exact ⟨_, _, shNon⟩
      rcases List.mem_cons.mp hv with rfl | hv
      · exact ⟨_, _, shInt (by decide +kernel) (by decide +kernel)⟩
      rcases List.mem_cons.mp hv with rfl | hv
      · exact ⟨_, _, shBl true⟩
      rcases List.mem_cons.mp hv with rfl | hv
      · exact ⟨_, _, shStr (by decide +kernel)⟩
      rcases List.mem_cons.mp hv with rfl | hv
      · refine ⟨_, _, shTup (ts := [((toString (1 : Int) : String) : Str), reprText "b"]) f5 rfl (fun i x t h3 h4 u r => ?_) (by decide +kernel)⟩
        match i with
        | 0 =>
          simp at h3 h4
          subst h3 h4
          obtain ⟨tk, rfl⟩ := (show ∃ tk, u = Value.int 1 tk from r)
          exact ReprIs.int tk (by decide +kernel)
        | 1 =>
          simp at h3 h4
          subst h3 h4
          obtain ⟨tk, rfl⟩ := (show ∃ tk, u = Value.str "b" tk from r)
          exact ReprIs.str _ tk (Nat.le_trans (show (reprText "b").length ≤ 3000 by decide +kernel) (by decide))
        | j + 2 => simp at h3
      rcases List.mem_cons.mp hv with rfl | hv
      · exact ⟨_, _, shList1 f6 (by decide +kernel) (by decide +kernel)⟩
      rcases List.mem_cons.mp hv with rfl | hv
      · exact ⟨_, _, R.shown Hg _ lg⟩
      rcases List.mem_cons.mp hv with rfl | hv
      · exact ⟨_, _, shInt (by decide +kernel) (by decide +kernel)⟩
      rcases List.mem_cons.mp hv with rfl | hv
      · exact ⟨_, _, shTup (ts := []) f8 rfl (fun i x t h3 => by simp at h3) (by decide +kernel)⟩
      rcases List.mem_cons.mp hv with rfl | hv
      · exact ⟨_, _, shInt (by decide +kernel) (by decide +kernel)⟩
      · cases hv
    obtain ⟨al, tl, sl⟩ := sh lo (List.mem_of_getElem? hlo)
    obtain ⟨ah, th, shh⟩ := sh hi (List.mem_of_getElem? hhi)
    clear sh hlo hhi hf ht h8 h3 lg la f5 f6 f8 e5 e6
    refine ⟨lo, rfl, fun p1 us1 G1 np1 sm1 ep1 pr1 => ?_⟩
    repeat (first | walk_at "st" | with_reducible refine g_tcall ?_ | with_reducible refine g_tb ?_)
    refine ⟨lo, rfl, fun p2 us2 G2 np2 sm2 ep2 pr2 => ?_⟩
    repeat (first | walk_at "st" | with_reducible refine g_tcall ?_ | with_reducible refine g_tb ?_)
    refine ⟨lo, rfl, fun p3 us3 G3 np3 sm3 ep3 pr3 => ?_⟩
    repeat (first | walk_at "st" | with_reducible refine g_tcall ?_ | with_reducible refine g_tb ?_)
    have sA := (sm1.trans sm2).trans sm3
    refine ⟨lo, hi, al, ah, tl, th, rfl, sl.same sA, shh.same sA, fun p4 us4 G np4 sm4 ep4 P4 => ?_⟩
    have sl := sl.same (sA.trans sm4)
    have e1 := sm4 _ _ (sm3 _ _ (sm2 _ _ ep1))
    have e2 := sm4 _ _ (sm3 _ _ ep2)
    have e3 := sm4 _ _ ep3
    have P1 := pairedMono (fun _ _ h => ExAt.same h ((sm2.trans sm3).trans sm4)) pr1
    have P2 := pairedMono (fun _ _ h => ExAt.same h (sm3.trans sm4)) pr2
    have P3 := pairedMono (fun _ _ h => ExAt.same h sm4) pr3
    have offG : OffP p H G := fun b o e n => sm4 _ _ (sA _ _ (off b o e n))
    have N1 : us1.length = 20 := P1.length.trans R.len1
    have N2 : us2.length = 18 := P2.length.trans R.len2
    have N3 : us3.length = 6 := P3.length.trans R.len3
    have N4 : us4.length = 14 := P4.length.trans R.len4
    clear sm1 sm2 sm3 pr1 pr2 pr3 ep1 ep2 ep3 np1 np2 np3 off off3 offg shh hg
    have h0 : Hs G G [] [] := Hs.start0
    have ox1 : ∀ C ∈ Cs1, ∃ newId bmB, OxC K C newId bmB := fun C h => (R.ox C (by simp [h])).1
    have ox2 : ∀ C ∈ Cs2, ∃ newId bmB, OxC K C newId bmB := fun C h => (R.ox C (by simp [h])).1
    have ox3 : ∀ C ∈ Cs3, ∃ newId bmB, OxC K C newId bmB := fun C h => (R.ox C (by simp [h])).1
    repeat (first | walk_at "st" | with_reducible refine g_tcall ?_ | with_reducible refine g_tb ?_)
    refine g_lcD (fun _ => lo) h0 e1 (by omega) (fun j x H1 hx e Rr kk => g_xat (g_var rfl (attrAll P1 ox1 R.no1 hx e (kk H1 (Same.refl H1))))) fun D1 K1 nD1 h1 => ?_
    rw [same_map N1] at h1
    repeat (first | walk_at "st" | with_reducible refine g_tcall ?_ | with_reducible refine g_tb ?_)
    refine g_lcD (fun _ => lo) h1 (h1.kept _ _ e2) (by omega) (fun j x H1 hx e Rr kk => g_xat (g_var rfl (attrAll P2 ox2 R.no2 hx (h1.kept.trans e) (kk H1 (Same.refl H1))))) fun D2 K2 nD2 h2 => ?_
    rw [same_map N2] at h2
    repeat (first | walk_at "st" | with_reducible refine g_tcall ?_ | with_reducible refine g_tb ?_)
    refine g_lcD (fun _ => lo) h2 (h2.kept _ _ e3) (by omega) (fun j x H1 hx e Rr kk => g_xat (g_var rfl (attrAll P3 ox3 R.no3 hx (h2.kept.trans e) (kk H1 (Same.refl H1))))) fun D3 K3 nD3 h3 => ?_
    rw [same_map N3] at h3
    repeat (first | walk_at "st" | with_reducible refine g_tcall ?_ | with_reducible refine g_tb ?_)
    refine reprRows (tss := [List.replicate 20 tl, List.replicate 18 tl, List.replicate 6 tl]) (by assumption) (by walk_at "cut") (Rows.cons (y := lo) (ys := List.replicate 19 lo) (by walk_at "mem") (pairRep sl 20) (by simp) (Rows.cons (y := lo) (ys := List.replicate 17 lo) (by walk_at "mem") (pairRep sl 18) (by simp) (Rows.cons (y := lo) (ys := List.replicate 5 lo) (by walk_at "mem") (pairRep sl 6) (by simp) Rows.nil))) (by simp) sl.there rfl rfl rfl rfl rfl fun H1 e1' => ?_
    have h4 := Hs.same (by assumption) e1'
    clear e1'
    repeat (first | walk_at "st" | with_reducible refine g_tcall ?_ | with_reducible refine g_tb ?_)
    refine reprRows (tss := [List.replicate 20 tl, List.replicate 18 tl, List.replicate 6 tl]) (by assumption) (by walk_at "cut") (Rows.cons (y := lo) (ys := List.replicate 19 lo) (by walk_at "mem") (pairRep sl 20) (by simp) (Rows.cons (y := lo) (ys := List.replicate 17 lo) (by walk_at "mem") (pairRep sl 18) (by simp) (Rows.cons (y := lo) (ys := List.replicate 5 lo) (by walk_at "mem") (pairRep sl 6) (by simp) Rows.nil))) (by simp) sl.there rfl rfl rfl rfl rfl fun H1 e1' => ?_
    have h5 := Hs.same (by assumption) e1'
    clear e1'
    repeat (first | walk_at "st" | with_reducible refine g_tcall ?_ | with_reducible refine g_tb ?_)
    refine g_ne ?_
    repeat (first | walk_at "st" | with_reducible refine g_tcall ?_ | with_reducible refine g_tb ?_)
    refine g_iteNF rfl ?_
    repeat (first | walk_at "st" | with_reducible refine g_tcall ?_ | with_reducible refine g_tb ?_)
    refine g_len (.inl (SqL.of (h5.kept _ _ ep4))) ?_
    rw [N4]
    repeat (first | walk_at "st" | with_reducible refine g_tcall ?_ | with_reducible refine g_tb ?_)
    refine g_neInt ?_
    repeat (first | walk_at "st" | with_reducible refine g_tcall ?_ | with_reducible refine g_tb ?_)
    refine g_iteNF rfl ?_
    repeat (first | walk_at "st" | with_reducible refine g_tcall ?_ | with_reducible refine g_tb ?_)
    have I1 := pairedMono (fun _ _ h => ExAt.is h) P1
    have I2 := pairedMono (fun _ _ h => ExAt.is h) P2
    have I3 := pairedMono (fun _ _ h => ExAt.is h) P3
    refine g_catD h5 (h5.kept _ _ e1) (h5.kept _ _ e2) (by omega) fun D6 K6 nD6 h6 => ?_
    refine g_lcD (fun _ => .bl true) h6 (h6.mem List.mem_cons_self) (by simp; omega) (fun j x H1 hx e Rr kk => kinStep (pairedApp I1 I2) (fun C h => R.ox C (by simp only [List.mem_append] at h ⊢; exact .inl (.inl h))) R.kin12 (by decide +kernel) (by decide +kernel) hx (h6.kept.trans e) kk rfl) fun D7 K7 nD7 h7 => ?_
    repeat (first | walk_at "st" | with_reducible refine g_tcall ?_ | with_reducible refine g_tb ?_)
    refine g_all h7 List.mem_cons_self ?_
    repeat (first | walk_at "st" | with_reducible refine g_tcall ?_ | with_reducible refine g_tb ?_)
    refine iteF ?_
    repeat (first | walk_at "st" | with_reducible refine g_tcall ?_ | with_reducible refine g_tb ?_)
    refine g_lcD (fun _ => .bl true) h7 (h7.kept _ _ ep4) (by omega) (fun j x H1 hx e Rr kk => kinStep P4 (fun C h => R.ox C (by simp only [List.mem_append]; exact .inr h)) R.kin4 (by decide +kernel) (by decide +kernel) hx (h7.kept.trans e) kk rfl) fun D8 K8 nD8 h8 => ?_
    repeat (first | walk_at "st" | with_reducible refine g_tcall ?_ | with_reducible refine g_tb ?_)
    refine g_all h8 List.mem_cons_self ?_
    repeat (first | walk_at "st" | with_reducible refine g_tcall ?_ | with_reducible refine g_tb ?_)
    refine iteF ?_
    repeat (first | walk_at "st" | with_reducible refine g_tcall ?_ | with_reducible refine g_tb ?_)
    refine g_lcD (fun _ => .bl true) h8 (h8.kept _ _ e3) (by omega) (fun j x H1 hx e Rr kk => kinStep I3 (fun C h => R.ox C (by simp only [List.mem_append]; exact .inl (.inr h))) R.kin3 (by decide +kernel) (by decide +kernel) hx (h8.kept.trans e) kk rfl) fun D9 K9 nD9 h9 => ?_
    repeat (first | walk_at "st" | with_reducible refine g_tcall ?_ | with_reducible refine g_tb ?_)
    refine g_all h9 List.mem_cons_self ?_
    repeat (first | walk_at "st" | with_reducible refine g_tcall ?_ | with_reducible refine g_tb ?_)
    refine iteF ?_
    repeat (first | walk_at "st" | with_reducible refine g_tcall ?_ | with_reducible refine g_tb ?_)
    refine g_neIM [8, 5, 600, 6, 20000] (by assumption) (by walk_at "mem") (by walk_at "mem") (by decide +kernel) (by decide +kernel) ?_
    repeat (first | walk_at "st" | with_reducible refine g_tcall ?_ | with_reducible refine g_tb ?_)
    rename_i hl
    refine g_catD hl (hl.kept _ _ e1) (hl.kept _ _ e2) (by omega) fun D10 K10 nD10 h10 => ?_
    refine g_var rfl ?_
    refine g_catD h10 (h10.mem List.mem_cons_self) (h10.kept _ _ e3) (by simp; omega) fun D11 K11 nD11 h11 => ?_
    refine g_var rfl ?_
    refine g_catD h11 (h11.mem List.mem_cons_self) (h11.kept _ _ ep4) (by simp; omega) fun D12 K12 nD12 h12 => ?_
    refine g_lcD (fun _ => .bl true) h12 (h12.mem List.mem_cons_self) (by simp; omega) (fun j x H1 hx e Rr kk => clsStep (pairedApp (pairedApp (pairedApp I1 I2) I3) P4) R.ox R.cls1 hx (h12.kept.trans e) kk rfl) fun D13 K13 nD13 h13 => ?_
    repeat (first | walk_at "st" | with_reducible refine g_tcall ?_ | with_reducible refine g_tb ?_)
    refine g_all h13 List.mem_cons_self ?_
    repeat (first | walk_at "st" | with_reducible refine g_tcall ?_ | with_reducible refine g_tb ?_)
    exact k _ fun b o e n => h13.kept _ _ (offG b o e n)

end My
set_option Elab.async false
set_option maxRecDepth 100000
set_option maxHeartbeats 8000000
namespace My
open PySem PySem.Spec PyProof.Rows L2
def rMax2 : List V → Hp → VK → Prop := fun xs H Q => ∃ i j, xs = [.int i, .int j] ∧ Q (.int (if j > i then j else i)) H
def rMin2 : List V → Hp → VK → Prop := fun xs H Q => ∃ i j, xs = [.int i, .int j] ∧ Q (.int (if j < i then j else i)) H
section
variable {K : PySem.W.Frag} {H0 H : Hp} {Q : VK} {σ : L2.St} {te : TE} {ta : TA} {i : Nat}
/-- [e for i in range(n)], from the number n on -/
def LrAt (te : TE) (i : Nat) (σ : L2.St) (Q : VK) (vs : List V) (H1 : Hp) : Prop := ∃ j : Int, vs = [.int j] ∧ -(2 ^ 62) ≤ j ∧ j < 2 ^ 62 ∧ ∀ D, H1 D = none → ∃ W : Nat → Nat → Hp → Prop, (∃ m, W 0 m (upd H1 D (.lst []))) ∧ ∀ k m H, W k m H →
  ((Itr 0 j.toNat).stop k H ∧ Q (.ref D) H) ∨ ((Itr 0 j.toNat).go k H ∧ ∃ Nx : Hp → Prop, (∀ H', Nx H' → ∃ m', m' < m ∧ W (k + 1) m' H') ∧ ∀ x H', (Itr 0 j.toNat).yld k H x H' → gName i x (wipe σ [i]) H' fun σ2 H2 => wipe σ2 [i] = wipe σ [i] ∧ tYes σ2 H2 fun b H3 =>
    if b = true then te σ2 H3 fun y H4 => ∃ acc, H4 D = some (.lst acc) ∧ acc.length < sizeLine ∧ Nx (upd H4 D (.lst (acc ++ [y]))) else Nx H3)
theorem g_lr (h : ta σ H fun vs H1 => LrAt te i σ Q vs H1) : tLc (iRng1 ta) (gName i) tYes te [i] σ H Q := h
/-- every turn the same value; what is tracked ahead stays -/
theorem g_lrM {n : Nat} (v : V) (hn : n ≤ 100000) (he : ∀ (j : Nat) (H1 : Hp), j < n → Same H H1 → ∀ R : VK, (∀ H2, Same H1 H2 → R v H2) → te ((wipe σ [i]).set i (some (.int j))) H1 R)
    (k : ∀ D H1, Same H H1 → H1 D = some (.lst (List.replicate n v)) → Q (.ref D) H1) : LrAt te i σ Q [.int n] H := by
  refine ⟨(n : Int), rfl, by omega, by omega, fun D hD => ?_⟩
  have e : ((n : Int)).toNat = n := by omega
  rw [e]
  refine lc_range (fun j H1 => Same H H1 ∧ H1 D = some (.lst (List.replicate j v))) ⟨fun b o q => by rw [upd_ne (ne_of_none q hD)]; exact q, upd_same⟩ (fun j H1 hj q => ?_) (fun H1 q => k D H1 q.1 q.2)
  obtain ⟨s1, d1⟩ := q
  refine ⟨wipe1 σ i _, ?_⟩
  unfold tYes
  rw [show (0 : Int) + ((j : Nat) : Int) = ((j : Nat) : Int) by omega]
  refine iteT (he j H1 hj s1 _ fun H2 s2 => ⟨_, s2 _ _ d1, ?_, fun b o z => ?_, ?_⟩)
  · rw [List.length_replicate]
    exact Nat.lt_of_le_of_lt (Nat.le_trans (Nat.le_of_lt hj) hn) (by decide)
  · rw [upd_ne (ne_of_none z hD)]
    exact s2 _ _ (s1 _ _ z)
  · rw [upd_same, List.replicate_succ']
theorem g_allR {n : Nat} {D : Addr} (e : H D = some (.lst (List.replicate n (V.bl true)))) (q : Q (.bl true) H) : rAll K [.ref D] H Q := by
  refine ⟨D, List.replicate n true, rfl, ?_, ?_⟩
  · rw [List.map_replicate]
    exact SqL.of e
  · have z : (List.replicate n true).all id = true := by simp
    rw [z]
    exact q
end
abbrev sLaw : Stmt := top 80
theorem scLaw : FnScope ["_law_cells", "_law_turn"] ["_law_cells"] (defScope sLaw) := ⟨rfl, rfl, rfl, by decide +kernel, rfl, by decide +kernel, by decide +kernel⟩
def spLaw (K : PySem.W.Frag) : Sp := fun vs H Q _ => ∃ (a : Addr) (ns : List Int), vs = [.ref a] ∧ SqL K H a (ns.map V.int) ∧ ns.length ≤ 63 ∧ ∀ H', Q (.bl true) H'
structure LawK (P : Program) (w : World) (K : PySem.W.Frag) (mg : Str → Option Value) (base : Heap) where
  f_source : Addr
  d_source : FuncData
  source : FnOk P w K mg base CX0 1 f_source d_source ["_law_cells", "_law_turn"] (spSource K)
  m_source : mg "_law_source" = some (.ref f_source)
  k_source : PySem.W.keepIn K (.ref f_source) = true
  b_source : Binds K d_source ["_law_cells", "_law_turn"] []
  f_right : Addr
  d_right : FuncData
  right : FnG P w K mg base CX0 50 f_right d_right ["_law_source_here"] spRight
  m_right : mg "_law_right" = some (.ref f_right)
  k_right : PySem.W.keepIn K (.ref f_right) = true
  b_right : Binds K d_right ["_law_source_here"] []
  len_ : mg "len" = none
  all_ : mg "all" = none
  max_ : mg "max" = none
  min_ : mg "min" = none
  range_ : mg "range" = none
theorem ok_law {P : Program} {w : World} {K : PySem.W.Frag} {mg : Str → Option Value} {base : Heap} {f : Addr} {fd : FuncData} (F : Fun K "law" "law" sLaw f fd) (R : LawK P w K mg base) : FnG P w K mg base CX0 51 f fd ["_law_cells"] (spLaw K) := by
  refine okG F scLaw (fun vs H Q E h => ?_) (fun cdv A outer s H vs Q E hr gd h => ?_)
  · obtain ⟨a, ns, rfl, _⟩ := h
    rfl
  · obtain ⟨a, ns, rfl, hS, hlen, k⟩ := h
    have hr1 := hr.mono (by decide : 1 ≤ 50)
    refine ⟨_, pss_one (ps_ret (pe_callB (cr_all rfl) (by rfl) R.all_ PyProof.Rows.boot_all (pa_cons (pe_lc (te := tCall spRight [] E0 (tCons (tCall (spSource K) [] E0 (tCons (tVar 0) (tCons (tVar 1) tNil))) tNil)) (own := [("_law_turn", 1)]) (g := gName 1) rfl scLaw.nd
      (pi_range1 rfl R.range_ (pa_cons (pe_callB (r := rMax2) (call_max2 rfl) (by rfl) R.max_ PyProof.Rows.boot_max (pa_cons pe_int (pa_cons (pe_callB (r := rMin2) (call_min2 rfl) (by rfl) R.min_ PyProof.Rows.boot_min (pa_cons (pLen R.len_ (pv 0)) (pa_cons pe_int pa_nil))) pa_nil))) pa_nil))
      (blkOk_by (own := [("_law_turn", 1)]) (N := ["_law_cells", "_law_turn"]) (sc := defScope sLaw) (by decide +kernel)) (fun _ _ _ _ _ => pg_name (i := 1) scLaw.nd rfl (Or.inl rfl)) (fun _ _ _ _ _ => pts_nil)
      (fun _ _ _ _ _ => pe_callG R.right hr gd rfl R.m_right R.k_right R.b_right pass0 (pa_cons (pe_call R.source hr1 rfl R.m_source R.k_source R.b_source .nil pass0 (pa_cons (pv 0) (pa_cons (pv 1) pa_nil))) pa_nil))) pa_nil))), ?_⟩
    refine g_ret (g_cb (g_cons (g_lr ?_)))
    refine g_cons (g_cb (g_cons (g_c (g_cons (g_cb (g_cons (g_cb (g_cons (g_var rfl (g_nil ?_)))))))))) 
    refine g_len (.inl hS) (g_cons (g_c (g_nil ?_)))
    rw [List.length_map]
    refine ⟨_, _, rfl, g_nil ⟨_, _, rfl, g_nil ?_⟩⟩
    obtain ⟨n, hn, n5⟩ : ∃ n : Nat, (if (if (5 : Int) < (ns.length : Int) then (5 : Int) else (ns.length : Int)) > 2 then (if (5 : Int) < (ns.length : Int) then (5 : Int) else (ns.length : Int)) else 2) = (n : Int) ∧ n ≤ 5 := by
      refine ⟨(if (if (5 : Int) < (ns.length : Int) then (5 : Int) else (ns.length : Int)) > 2 then (if (5 : Int) < (ns.length : Int) then (5 : Int) else (ns.length : Int)) else 2).toNat, ?_, ?_⟩
      · split <;> split <;> omega
      · split <;> split <;> omega
    rw [hn]
    refine g_lrM (.bl true) (by omega) (fun j H1 hj e Rr kk => ?_) fun D H1 e d => g_nil (g_allR d (k _))
    refine g_tcall (g_cons (g_tcall (g_cons (g_var rfl (g_cons (g_var rfl (g_nil ?_)))))))
    refine ⟨a, ns, (j : Int), rfl, e.seq hS, hlen, by omega, by omega, fun p H2 A S np sm src => g_nil ⟨p, A, S, rfl, src, fun H3 off => kk H3 fun b o z => off b o (sm b o z) fun q => ?_⟩⟩
    rw [q, np] at z
    cases z
end My
set_option Elab.async false
set_option maxRecDepth 100000
set_option maxHeartbeats 4000000
namespace My
open PySem PySem.Spec PyProof.Rows L2
/-! ### for i, x in enumerate(t), t a tuple -/
theorem meets_enum1 {v : Value} {o : Obj} {H : Heap → Prop} (B : Begins v o H) :
    Meets (Builtin.«enumerate.__new__» ⟨[.type "enumerate", v], []⟩) (fun _ R s => H s.heap ∧
      R (.ok (.ret (.ref (s.heap.push o).objs.size))) { s with heap := (s.heap.push o).push { cls := .type "enumerate", data := .fields #[.none, .bool false, .ref s.heap.objs.size, rawInt 0, .none, .none] } }) :=
  .of_wp fun prog w A R s h => by
    obtain ⟨hp, g, d, tk, os⟩ := s
    obtain ⟨h1, h⟩ := h
    have hsub := sub_enumerate
    have q1 : ∀ {A' : Around} {E : Value → Shared → Prop} {Q : Value → Shared → Prop}, Q (.ref hp.objs.size) ⟨hp.push o, g, d, tk, os⟩ → wpAny (model prog w) A' (pyIter v) Q E ⟨hp, g, d, tk, os⟩ :=
      fun q => B.iter prog w _ _ ⟨hp, g, d, tk, os⟩ _ h1 q
    wp_walk using q1
    refine wpAny_stack_any fun st => wpAny_pure ?_
    split
    · rename_i c _ _ _ _ _
      cases (c == Value.type "enumerate")
      · wp_walk using q1
        exact ⟨_, rfl, h⟩
      · wp_walk using q1
        exact ⟨_, rfl, h⟩
    · wp_walk using q1
      exact ⟨_, rfl, h⟩
section
variable {prog : Program} {w : World} {A : Around} {E : Value → Shared → Prop} {s : Shared}
theorem enum_begins1 {v : Value} {o : Obj} {H : Heap → Prop} {Q : Value → Shared → Prop} (B : Begins v o H) (h1 : H s.heap)
    (h : ∀ h', IsEnum h' (s.heap.objs.size + 1) s.heap.objs.size 0 .none → h'.get? s.heap.objs.size = some o → h'.objs.size = s.heap.objs.size + 2 →
      (∀ b o, s.heap.get? b = some o → h'.get? b = some o) → Q (.ref (s.heap.objs.size + 1)) { s with heap := h' }) :
    wpAny (model prog w) A (call (.type "enumerate") [v]) Q E s := by
  refine callType_new F.called_enumerate (by decide) (F.typeCall_enumerate_1 _) (F.newCall_enumerate_1 _) (fun obj => F.args_object_init_2 obj _) F.entry_enumerate_new
    (meets_enum1 B) ⟨h1, ?_⟩
  have hz : (s.heap.push o).objs.size = s.heap.objs.size + 1 := Heap.size_push ..
  show _ ∧ _
  rw [hz]
  have he : IsEnum ((s.heap.push o).push { cls := .type "enumerate", data := .fields #[.none, .bool false, .ref s.heap.objs.size, rawInt 0, .none, .none] }) (s.heap.objs.size + 1) s.heap.objs.size 0 .none := by
    have := Heap.get?_push_size (s.heap.push o) (o := { cls := .type "enumerate", data := .fields #[.none, .bool false, .ref s.heap.objs.size, rawInt 0, .none, .none] }) rfl
    rw [hz] at this
    exact this
  refine ⟨⟨_, he, rfl⟩, h _ he (Heap.get?_push_of_some _ (Heap.get?_push_size _ B.free)) (by rw [Heap.size_push, hz]) fun b o x => Heap.get?_push_of_some _ (Heap.get?_push_of_some _ x)⟩
end
/-- the tuple at a, each item in a new pair -/
def IteT (K : PySem.W.Frag) (a : Addr) : It :=
  ⟨fun i H => ∃ (xs : List V) (x : V), SqT K H a xs ∧ xs[i]? = some x, fun i H v H' => ∃ T x, v = .ref T ∧ H T = none ∧ H' = upd H T (.tup [.int (i : Nat), x]) ∧ ∀ xs, SqT K H a xs → xs[i]? = some x, fun i H => ∃ xs : List V, SqT K H a xs ∧ xs.length = i⟩
theorem isTup_of {h : Heap} {a : Addr} {its : Array Value} (t : IsTup h a its) : h.IsTuple a its := t
theorem turn_enumT {P : Program} {w : World} {K : PySem.W.Frag} {elts : List Expr} {kk : Nat} {tpos : Pos} (a e it : Addr) (hai : a ≠ it) :
    Turn P w K (.Tuple elts kk tpos) (IteT K a) [e, it] e (fun i h => (∃ old, IsEnum h e it ((i : Nat) : Int) old) ∧ h.IsTupleIter it a i ∧ e ≠ it ∧ a ≠ e) where
  mem := by simp
  obj := fun i h st b hb => by
    obtain ⟨⟨old, he⟩, ⟨o, ho, hc, hd⟩, _⟩ := st
    have e' : b = e ∨ b = it := by simpa using hb
    rcases e' with z | z
    · rw [z]; exact ⟨_, he, fun v q => nomatch q⟩
    · rw [z]; exact ⟨o, ho, fun v q => by rw [hd] at q; cases q⟩
  keep := fun i h h' st k => let ⟨⟨old, he⟩, hi, hne⟩ := st; ⟨⟨old, k e (by simp) _ he⟩, hi.at fun o q => k it (by simp) o q, hne⟩
  item := by
    intro X hP hw hK hc i pins s σ H E I hf st hg
    subst hP hw hK
    obtain ⟨⟨old, he⟩, hit, hne, hae⟩ := st
    obtain ⟨xs, x, hq, hx⟩ := hg
    obtain ⟨its, rv, p, hz⟩ := I.tuple hq
    obtain ⟨u, hu, ru⟩ := rv.get hx
    have hel : e < s.heap.objs.size := Heap.lt_size he
    have hil : it < s.heap.objs.size := by obtain ⟨_, q, _⟩ := hit; exact Heap.lt_size q
    have hlt : i < its.toArray.size := by
      have q := (List.getElem?_eq_some_iff.mp hu).1
      simpa using q
    refine wpAny_pyNext_enum_itemD (Draws.tuple (A := X.A.in1) (show X.A.in1.handled = Option.none from I.ok.hd hc) it a hai its.toArray) he ⟨hit, isTup_of p⟩ hlt hne (by
      intro z
      rcases List.mem_cons.mp z with z | z
      · exact hne z
      · exact hae (List.mem_singleton.mp z).symm) fun u2 h' tk hP ho hS hT hsz hk => ?_
    obtain ⟨hit', _⟩ := hS
    have hu2 : u2 = u := by
      have q : its[i]? = some u2 := by simpa using hP
      rw [hu] at q
      exact (Option.some.inj q).symm
    subst hu2
    refine ⟨_, rfl, wpAny_letOwnedTupleGo_enum (s := { s with heap := h', toks := tk + 1 }) ho fun h'' he' sb => ?_⟩
    have hT2 : h''.get? s.heap.objs.size = some { cls := .type "tuple", data := .seq #[.int i tk, u2] } := (sb.2 _ (Nat.ne_of_gt hel)).trans hT
    have new : ObjOk X.prog X.w (upd H s.heap.objs.size (.tup [.int (i : Nat), x])) h'' s.heap.objs.size (.tup [.int (i : Nat), x]) :=
      ⟨by show 2 ≤ sizeLine; decide, [.int i tk, u2], .cons ⟨_, rfl⟩ (.cons ru .nil), ⟨_, hT2, rfl, _, rfl⟩⟩
    have I1 : Inv X pins σ (upd H s.heap.objs.size (.tup [.int (i : Nat), x])) { s with heap := h'', toks := tk + 1 } :=
      I.turnedNew (ch := [e, it]) (fun b ob hb q => (sb.2 b (fun z => hb (by simp [z]))).trans (hk b ob (fun z => hb (by simp [z])) (fun z => hb (by simp [z])) q)) hf (Nat.le_refl _) new
    refine ⟨.ref s.heap.objs.size, _, I1, rfl, ⟨_, x, rfl, I.hok.fresh (Nat.le_refl _), rfl, fun ys hy => by rw [I.tuple_inj hy hq]; exact hx⟩, ⟨⟨u2, ?_⟩, hit'.at fun o q => (sb.2 it (Ne.symm hne)).trans q, hne, hae⟩, fun b hb => ?_⟩
    · have e1 : ((i + 1 : Nat) : Int) = (i : Int) + 1 := by omega
      rw [e1]; exact he'
    · have hb' : b < s.heap.objs.size := by
        have e' : b = e ∨ b = it := by simpa using hb
        rcases e' with z | z
        · rw [z]; exact hel
        · rw [z]; exact hil
      rw [upd_ne (Nat.ne_of_lt hb')]
      exact (hf b hb).1
  done := by
    intro X hP hw hK hc i pins s σ H E I hf st hg
    subst hP hw hK
    obtain ⟨⟨old, he⟩, hit, hne, hae⟩ := st
    obtain ⟨xs, hq, hx⟩ := hg
    obtain ⟨its, rv, p, hz⟩ := I.tuple hq
    obtain ⟨f0, f1, f2, f3, f4, f5⟩ := hf it (by simp)
    have hl := rv.length
    have ei : its.toArray.size = i := by
      rw [List.size_toArray]
      omega
    refine wpAny_pyNext_enum_endD (n := its.toArray.size) (Draws.tuple (A := X.A.in1) (show X.A.in1.handled = Option.none from I.ok.hd hc) it a hai its.toArray) he ⟨by rw [ei]; exact hit, isTup_of p⟩ fun h' eb => ⟨rfl, ?_⟩
    exact I.turned (t' := s.toks) (fun b o hb q => eb b o hb q) f0 f1 f3 f4 f5
  self := fun A i s Q E st h => let ⟨⟨_, he⟩, _⟩ := st; wpAny_pyIter_enum he h
def iEnumT (K : PySem.W.Frag) (ta : TA) : TI := fun σ H R => ta σ H fun vs H1 => ∃ a xs, vs = [.ref a] ∧ SqT K H1 a xs ∧ R (IteT K a) H1
theorem pi_enumT {X : Cx} {e : Expr} {ta : TA} {p pos tpos : Pos} {elts : List Expr} {kk : Nat} (hg : Gl X "enumerate") (hm : X.mg "enumerate" = none) (ha : PA X [e] ta) (hs : starEach [e] X.env = [(false, eval e X.env)] := by rfl) :
    PI X (.Tuple elts kk tpos) (.Call (.Name "enumerate" p) [e] [] pos) (iEnumT X.K ta) := by
  refine ⟨fun pins s σ H R I h => ?_⟩
  refine Call_ (ld_blt I hg hm boot_enumerate (PyProof.Rows.callWith_type1 (thn (ha.run pos pins s σ H _ I h) fun us s1 ⟨vs, H1, I1, r1, q1⟩ => ?_) hs rfl))
  obtain ⟨a, xs, ex, hq, q⟩ := q1
  subst ex
  cases r1 with
  | cons r rr =>
    cases rr
    cases r
    obtain ⟨its, rv, p', hz⟩ := I1.tuple hq
    have ha' : a < s1.heap.objs.size := by
      obtain ⟨o, z, _⟩ := isTup_of p'
      exact Heap.lt_size z
    refine enum_begins1 (begins_tuple a its.toArray) (isTup_of p') fun h' he hit hsz hk => wpAny_pyIter_enum he ?_
    have I2 : Inv X pins σ H1 { s1 with heap := h' } := I1.kept (t' := s1.toks) hk
    refine ⟨s1.heap.objs.size + 1, [s1.heap.objs.size + 1, s1.heap.objs.size], _, _, H1, rfl, I2, turn_enumT a (s1.heap.objs.size + 1) s1.heap.objs.size (Nat.ne_of_lt ha'), ⟨⟨.none, he⟩, ⟨_, hit, rfl, rfl⟩, Nat.succ_ne_self _, Nat.ne_of_lt (Nat.lt_succ_of_lt ha')⟩, fun b hb => ?_, q⟩
    have e' : b = s1.heap.objs.size + 1 ∨ b = s1.heap.objs.size := by simpa using hb
    have hle : s1.heap.objs.size ≤ b := by
      rcases e' with z | z
      · rw [z]; exact Nat.le_add_right _ _
      · rw [z]; exact Nat.le_refl _
    exact I1.fpOk hle (I1.hok.fresh hle)
end My
set_option Elab.async false
set_option maxRecDepth 100000
set_option maxHeartbeats 8000000
namespace My
open PySem PySem.Spec PyProof.Rows L2
/-- a def that is called by its name -/
structure Cal (P : Program) (w : World) (K : PySem.W.Frag) (mg : Str → Option Value) (base : Heap) (k : Nat) (x : Str) (ps : List Str) (sp : Sp) where
  f : Addr
  d : FuncData
  ok : FnOk P w K mg base CX0 k f d ps sp
  m : mg x = some (.ref f)
  kp : PySem.W.keepIn K (.ref f) = true
  b : Binds K d ps []
section
variable {X : Cx} {k : Nat} {x : Str} {p pos : Pos} {e : Expr} {es : List Expr} {ps : List Str} {sp : Sp} {t : TA} {ta tb : TE} {a b : Expr}
theorem pCal (C : Cal X.prog X.w X.K X.mg X.base k x ps sp) (hr : Room k X.A) (ha : PA X (e :: es) t) (hg : Gl X x := by rfl) (hdb : (x == ("__debug__" : Str)) = false := by decide) (he : starEach (e :: es) X.env = (false, eval e X.env) :: starEach es X.env := by rfl) (hpl : (backTo pos (starEach es X.env)).any (·.1) = false := by rfl) :
    PE X (.Call (.Name x p) (e :: es) [] pos) (tCall sp [] E0 t) := pe_call C.ok hr hg C.m C.kp C.b .nil pass0 ha hdb he hpl
theorem pIsi (z : X.mg "isinstance" = none) (ha : PE X a ta) (hb : PE X b tb) (hg : Gl X "isinstance" := by rfl) (hs : starEach [a, b] X.env = (false, eval a X.env) :: starEach [b] X.env := by rfl) (hs2 : starEach [b] X.env = (false, eval b X.env) :: starEach [] X.env := by rfl)
    (hpl : (backTo pos (starEach [b] X.env)).any (·.1) = false := by rfl) : PE X (.Call (.Name "isinstance" p) [a, b] [] pos) (tCB (rIsi X.K) (tCons ta (tCons tb tNil))) :=
  pe_callB call_isi hg z PyProof.Rows.boot_isinstance (pa_cons ha (pa_cons hb pa_nil hs2) hs) (he := hs) (hpl := hpl)
end
section
variable {K : PySem.W.Frag} {H0 H : Hp} {Q : VK} {σ : L2.St} {te ta tb tc : TE} {tt : TT}
theorem g_isi {x c : V} {t u : Value} {b : Bool} (cv : ClsV c u) (ty : TyX K H x t) (k : PySem.W.kitOne K t u = some b) (q : Q (.bl b) H) : rIsi K [x, c] H Q := ⟨x, c, t, u, b, rfl, cv, ty, k, q⟩
theorem g_andV (h : ta σ H fun x H1 => ∃ c, x = .bl c ∧ if c = true then tb σ H1 Q else Q (.bl false) H1) : tAndV ta tb σ H Q := h
theorem g_notV (h : ta σ H fun x H1 => ∃ c, x = .bl c ∧ Q (.bl (!c)) H1) : tNotV ta σ H Q := h
theorem g_chain {r r' : R2} (h : ta σ H fun x H1 => tb σ H1 fun y H2 => r x y H2 fun z H3 => ∃ k, z = .bl k ∧ (if k = true then tc σ H3 fun w' H4 => r' y w' H4 Q else Q (.bl false) H3)) : tChain r r' ta tb tc σ H Q := h
end
/-- [e for c in s], from the text s on -/
def LsAt (te : TE) (i : Nat) (σ : L2.St) (Q : VK) (v : V) (H1 : Hp) : Prop := ∃ x, v = .str x ∧ ∀ D, H1 D = none → ∃ W : Nat → Nat → Hp → Prop, (∃ m, W 0 m (upd H1 D (.lst []))) ∧ ∀ k m H, W k m H →
  ((Its x).stop k H ∧ Q (.ref D) H) ∨ ((Its x).go k H ∧ ∃ Nx : Hp → Prop, (∀ H', Nx H' → ∃ m', m' < m ∧ W (k + 1) m' H') ∧ ∀ x' H', (Its x).yld k H x' H' → gName i x' (wipe σ [i]) H' fun σ2 H2 => wipe σ2 [i] = wipe σ [i] ∧ tYes σ2 H2 fun b H3 =>
    if b = true then te σ2 H3 fun y H4 => ∃ acc, H4 D = some (.lst acc) ∧ acc.length < sizeLine ∧ Nx (upd H4 D (.lst (acc ++ [y]))) else Nx H3)
theorem g_ls {H : Hp} {Q : VK} {σ : L2.St} {te tl : TE} {i : Nat} (h : tl σ H fun v H1 => LsAt te i σ Q v H1) : tLc (iStr tl) (gName i) tYes te [i] σ H Q := h
theorem g_lsM {H : Hp} {Q : VK} {σ : L2.St} {te : TE} {i : Nat} {s : Str} (f : Nat → V) (hl : s.cps.size ≤ 40000) (he : ∀ (j : Nat) (c : Nat) (H1 : Hp), s.cps.toList[j]? = some c → Same H H1 → ∀ R : VK, (∀ H2, Same H1 H2 → R (f c) H2) → te ((wipe σ [i]).set i (some (.str ⟨#[c]⟩))) H1 R)
    (k : ∀ D H1, Same H H1 → H1 D = some (.lst (s.cps.toList.map f)) → Q (.ref D) H1) : LsAt te i σ Q (.str s) H := by
  refine ⟨s, rfl, fun D hD => lc_it walk_str (fun j H1 => Same H H1 ∧ H1 D = some (.lst ((s.cps.toList.take j).map f))) ⟨fun b o q => by rw [upd_ne (ne_of_none q hD)]; exact q, upd_same⟩ (fun _ _ _ _ => True.intro) (fun j x H1 H1' hj q y => ?_) (fun H1 q => ?_)⟩
  · obtain ⟨s1, d1⟩ := q
    obtain ⟨rfl, c, hc, rfl⟩ := y
    have hc : s.cps.toList[j]? = some c := by simpa using hc
    refine ⟨wipe1 σ i _, ?_⟩
    unfold tYes
    refine iteT (he j c H1' hc s1 _ fun H2 s2 => ⟨_, s2 _ _ d1, ?_, fun b o z => ?_, ?_⟩)
    · rw [List.length_map]
      exact Nat.lt_of_le_of_lt (Nat.le_trans (List.length_take_le' _ _) (by simpa using hl)) (by decide)
    · rw [upd_ne (ne_of_none z hD)]
      exact s2 _ _ (s1 _ _ z)
    · rw [upd_same, List.take_add_one, hc, List.map_append]
      rfl
  · obtain ⟨s1, d1⟩ := q
    rw [show s.cps.size = s.cps.toList.length by simp, List.take_length] at d1
    exact k D H1 s1 d1
theorem g_allF {K : PySem.W.Frag} {H : Hp} {Q : VK} {D : Addr} {bs : List Bool} (e : H D = some (.lst (bs.map V.bl))) (q : Q (.bl (bs.all id)) H) : rAll K [.ref D] H Q := ⟨D, bs, rfl, SqL.of e, q⟩
structure BltN (mg : Str → Option Value) : Prop where
  isi : mg "isinstance" = none
  int : mg "int" = none
  bool : mg "bool" = none
  str : mg "str" = none
  tuple : mg "tuple" = none
  len : mg "len" = none
  all : mg "all" = none
  LETTERS : ∃ t, mg "LETTERS" = some (.str "abcdefghijklmnopqrstuvwxyz" t)
  SIGNS : ∃ t, mg "SIGNS" = some (.str "abcdefghijklmnopqrstuvwxyz0123456789" t)
  MOST_SIGNS : ∃ t, mg "MOST_SIGNS" = some (.int 8 t)
local macro_rules | `(tactic| walk_at "cond") => `(tactic| first
  | exact Or.inr ⟨by decide, by decide⟩ | exact Or.inl ⟨by decide, by decide⟩ | exact ⟨by decide, by decide, by decide⟩ | exact ⟨by decide, by decide⟩
  | (refine Or.inl ⟨?_, ?_⟩ <;> omega) | (refine Or.inr ⟨?_, ?_⟩ <;> omega)
  | (show (0 : Int) < _; omega))
local macro_rules | `(tactic| walk_at "mem") => `(tactic| first | exact List.Mem.head _ | exact List.Mem.tail _ (List.Mem.head _) | exact Put.head | (refine List.Mem.tail _ ?_; walk_at "mem") | (apply Put.tail; walk_at "mem"))
local macro_rules | `(tactic| walk_at "st") => `(tactic| first
  | with_reducible refine g_seq ?_ | with_reducible refine g_asg ?_ | with_reducible refine g_name ?_ | ((with_reducible show tVar _ _ _ _); refine g_var rfl ?_) | with_reducible refine g_c ?_
  | with_reducible refine g_op ?_ | with_reducible refine g_test ?_ | with_reducible refine g_bl ?_
  | with_reducible refine g_cb ?_ | with_reducible refine g_cons ?_ | with_reducible refine g_nil ?_ | with_reducible refine g_tif ?_ | with_reducible refine g_ifs ?_ | with_reducible refine g_ret ?_
  | with_reducible refine g_drop ?_ | with_reducible refine g_next ?_
  | with_reducible refine g_i0 ?_ | ((with_reducible show rI _ _ _ _ _ _); refine g_i (by walk_at "cond") ?_) | with_reducible refine g_int ?_ | with_reducible refine g_abs ?_ | with_reducible refine g_or ?_
  | with_reducible refine g_and ?_ | with_reducible refine g_not ?_ | with_reducible refine g_lst ?_ | with_reducible refine g_tup ?_
  | with_reducible refine iteT ?_ | with_reducible refine iteF ?_ | with_reducible refine g_par ?_ | with_reducible refine g_two ?_ | with_reducible refine g_sub ?_
  | ((with_reducible show rIxL _ (V.ref _) (V.int _) _ _); refine g_ixM (by assumption) (by walk_at "mem") rfl rfl ?_)
  | ((with_reducible show rSetL (V.ref _) (V.int _) _ _ _); refine g_setM (by assumption) rfl (by walk_at "mem") fun _ _ => ?_)
  | with_reducible refine g_xmk ?_ | with_reducible refine g_xmkK ?_
  | ((with_reducible show XNew _ (spI1 _ _) _ _ _); refine g_x1 (by assumption) fun _ _ _ _ => ?_)
  | ((with_reducible show XNewK _ _ (spI1 _ _) _ _ _ _); refine g_x1k (by assumption) fun _ _ _ _ => ?_)
  | ((with_reducible show XNew _ (spI3 _ _ _ _) _ _ _); refine g_x3 (by assumption) fun _ _ _ _ => ?_)
  | ((with_reducible show tXmk0 _ _ _ _); refine g_xmk0 (by assumption) fun _ _ _ => ?_)
  | ((with_reducible show NewO _ _ _ _); refine g_newo (by assumption) (by first | decide | simp) fun _ _ _ _ => ?_)
  | ((with_reducible show rCat (V.ref _) (V.ref _) _ _); refine g_cat (by assumption) (by walk_at "mem") (by walk_at "mem") (by first | decide | simp) fun _ _ _ _ => ?_))

local macro_rules | `(tactic| walk_at "st") => `(tactic| first | with_reducible refine g_tcall ?_ | with_reducible refine g_tb ?_ | with_reducible refine g_andV ?_ | with_reducible refine g_notV ?_ | with_reducible refine g_chain ?_ | with_reducible refine g_un ?_ | with_reducible refine g_rU ?_)
section
variable {P : Program} {w : World} {K : PySem.W.Frag} {mg : Str → Option Value} {base : Heap}
/-- int, but no bool -/
def spNum (K : PySem.W.Frag) : Sp := fun vs H Q _ => ∃ v t b1 b2, vs = [v] ∧ TyX K H v t ∧ PySem.W.kitOne K t (.type "int") = some b1 ∧ (b1 = true → PySem.W.kitOne K t (.type "bool") = some b2) ∧ Q (.bl (b1 && !b2)) H
abbrev sIsNumber : Stmt := top 49
theorem scIsNumber : FnScope ["value"] ["value"] (defScope sIsNumber) := ⟨rfl, rfl, rfl, by decide +kernel, rfl, by decide +kernel, by decide +kernel⟩
theorem ok_isNumber {f : Addr} {fd : FuncData} (F : Fun K "is_number" "is_number" sIsNumber f fd) (T : BltN mg) : FnOk P w K mg base CX0 1 f fd ["value"] (spNum K) := by
  refine F.ok scIsNumber (fun vs H Q E h => ?_) (fun cdv A outer s H vs Q E hr h => ?_)
  · obtain ⟨v, _, _, _, rfl, _⟩ := h
    rfl
  · obtain ⟨v, t, b1, b2, rfl, ty, k1, k2, q⟩ := h
    refine ⟨_, pss_one (ps_ret (pe_and (pIsi T.isi (pv 0) (pe_bltn (v := .ty "int") rfl T.int PyProof.Rows.boot_int rfl)) (pe_one (pe_not (pIsi T.isi (pv 0) (pe_bltn (v := .ty "bool") rfl T.bool (by decide +kernel) rfl)))))), ?_⟩
    repeat walk_at "st"
    refine g_isi (.ty _) ty k1 ?_
    repeat walk_at "st"
    cases b1 with
    | false =>
      refine iteF ?_
      exact q
    | true =>
      refine iteT ?_
      repeat walk_at "st"
      refine g_isi (.ty _) ty (k2 rfl) ?_
      repeat walk_at "st"
      exact q
/-- for a number n: whether it is at least m; nothing else is -/
def spAtLeast (K : PySem.W.Frag) : Sp := fun vs H Q _ => ∃ v m, vs = [v, .int m] ∧ ((∃ n, v = .int n ∧ Q (.bl (decide (n ≥ m))) H) ∨ (∃ t b1 b2, TyX K H v t ∧ PySem.W.kitOne K t (.type "int") = some b1 ∧ (b1 = true → PySem.W.kitOne K t (.type "bool") = some b2) ∧ (b1 && !b2) = false ∧ Q (.bl false) H))
abbrev sIsAtLeast : Stmt := top 50
theorem scIsAtLeast : FnScope ["value", "least"] ["value", "least"] (defScope sIsAtLeast) := ⟨rfl, rfl, rfl, by decide +kernel, rfl, by decide +kernel, by decide +kernel⟩
theorem tyInt {H : Hp} {n : Int} : TyX K H (.int n) (.type "int") := .base (.int _)
theorem tyStr {H : Hp} {n : Str} : TyX K H (.str n) (.type "str") := .base (.str _)
theorem ok_isAtLeast {f : Addr} {fd : FuncData} (F : Fun K "is_at_least" "is_at_least" sIsAtLeast f fd) (C : Cal P w K mg base 1 "is_number" ["value"] (spNum K)) : FnOk P w K mg base CX0 2 f fd ["value", "least"] (spAtLeast K) := by
  refine F.ok scIsAtLeast (fun vs H Q E h => ?_) (fun cdv A outer s H vs Q E hr h => ?_)
  · obtain ⟨v, m, rfl, _⟩ := h
    rfl
  · obtain ⟨v, m, rfl, h⟩ := h
    refine ⟨_, pss_one (ps_ret (pe_and (pCal C hr (pa_cons (pv 0) pa_nil)) (pe_one (pe_cmpR op_ge (pv 0) (pv 1) (nomark _))))), ?_⟩
    repeat walk_at "st"
    rcases h with ⟨n, rfl, q⟩ | ⟨t, b1, b2, ty, k1, k2, e, q⟩
    · refine ⟨_, _, true, false, rfl, tyInt, kit_ty (by decide +kernel), fun _ => kit_ty (by decide +kernel), true, rfl, ?_⟩
      refine iteT ?_
      repeat walk_at "st"
      exact q
    · refine ⟨_, _, b1, b2, rfl, ty, k1, k2, b1 && !b2, rfl, ?_⟩
      rw [e]
      refine iteF ?_
      exact q
def firstIn (s z : Str) : Bool := match s.cps.toList with
  | [] => false
  | c :: _ => decide (c ∈ z.cps.toList)
def allIn (s z : Str) : Bool := s.cps.toList.all fun c => decide (c ∈ z.cps.toList)
/-- is the text a name? -/
def nameB (s : Str) : Bool := decide (1 ≤ s.length) && (decide (s.length ≤ 8) && (firstIn s "abcdefghijklmnopqrstuvwxyz" && allIn s "abcdefghijklmnopqrstuvwxyz0123456789"))
def spName (K : PySem.W.Frag) : Sp := fun vs H Q _ => ∃ v, vs = [v] ∧ ((∃ s, v = .str s ∧ s.length ≤ sizeLine ∧ ∀ H', Same H H' → Q (.bl (nameB s)) H') ∨ (∃ t, TyX K H v t ∧ PySem.W.kitOne K t (.type "str") = some false ∧ ∀ H', Same H H' → Q (.bl false) H'))
abbrev sIsName : Stmt := top 51
theorem scIsName : FnScope ["value", "sign"] ["value"] (defScope sIsName) := ⟨rfl, rfl, rfl, by decide +kernel, rfl, by decide +kernel, by decide +kernel⟩
theorem ok_isName {f : Addr} {fd : FuncData} (F : Fun K "is_name" "is_name" sIsName f fd) (T : BltN mg) : FnOk P w K mg base CX0 1 f fd ["value"] (spName K) := by
  obtain ⟨t1, l1⟩ := T.LETTERS
  obtain ⟨t2, l2⟩ := T.SIGNS
  obtain ⟨t3, l3⟩ := T.MOST_SIGNS
  refine F.ok scIsName (fun vs H Q E h => ?_) (fun cdv A outer s H vs Q E hr h => ?_)
  · obtain ⟨v, rfl, _⟩ := h
    rfl
  · obtain ⟨v, rfl, h⟩ := h
    refine ⟨_, pss_cons (ps_if (PW.pt (pw_or (pt_not (pt_val (pIsi T.isi (pv 0) (pe_bltn (v := .ty "str") rfl T.str (by decide +kernel) rfl)))) (pw_or1 (pt_not (pt_chain op_le op_le pe_int (pe_callB call_len_str (by rfl) T.len PySem.boot_len (pa_cons (pv 0) pa_nil)) (pe_glob (v := .int 8) rfl l3 ⟨_, rfl⟩)))))) (pss_one (ps_ret pe_bl)) pss_nil)
      (pss_one (ps_ret (pe_and (pe_cmpR op_in_sign (pe_ix ix_str (pv 0) pe_int (fun _ _ => rfl)) (pe_glob (v := .str "abcdefghijklmnopqrstuvwxyz") rfl l1 ⟨_, rfl⟩) (by rfl))
        (pe_one (pe_callB (cr_all rfl) (by rfl) T.all PyProof.Rows.boot_all (pa_cons (pe_lc (te := tOp (fun x y H Q => ∃ (c : Nat) (z : Str), x = .str ⟨#[c]⟩ ∧ y = .str z ∧ Q (.bl (decide (c ∈ z.cps.toList))) H) (tVar 1) (tC (.str "abcdefghijklmnopqrstuvwxyz0123456789"))) (own := [("sign", 1)]) (g := gName 1) rfl scIsName.nd (pi_str (pv 0))
          (blkOk_by (own := [("sign", 1)]) (N := ["value", "sign"]) (sc := defScope sIsName) (by decide +kernel)) (fun _ _ _ _ _ => pg_name (i := 1) scIsName.nd rfl (Or.inl rfl)) (fun _ _ _ _ _ => pts_nil)
          (fun _ _ _ _ _ => pe_cmpR op_in_sign (pv 1) (pe_glob (v := .str "abcdefghijklmnopqrstuvwxyz0123456789") rfl l2 ⟨_, rfl⟩) (by rfl))) pa_nil)))))), ?_⟩
    repeat walk_at "st"
    rcases h with ⟨z, rfl, hz, q⟩ | ⟨t, ty, k1, q⟩
    · refine g_isi (.ty _) tyStr (kit_ty (by decide +kernel) : PySem.W.kitOne K (.type "str") (.type "str") = some true) ?_
      refine g_bl (iteF ?_)
      repeat walk_at "st"
      refine ⟨z, rfl, hz, ?_⟩
      refine g_i0 (g_bl ?_)
      refine g_ite (fun c1 => ?_) (fun c1 => ?_)
      · refine g_c (g_i0 (g_bl ?_))
        by_cases c2 : (z.length : Int) ≤ 8
        · refine g_iteNF c2 ?_
          have l1 : 1 ≤ z.length := by omega
          have l2 : z.length ≤ 8 := by omega
          cases hc : z.cps.toList with
          | nil =>
            have : z.length = 0 := by
              show z.cps.size = 0
              rw [← Array.length_toList, hc]
              rfl
            omega
          | cons c rest =>
            have e : nameB z = (decide (c ∈ ("abcdefghijklmnopqrstuvwxyz" : Str).cps.toList) && allIn z "abcdefghijklmnopqrstuvwxyz0123456789") := by
              unfold nameB firstIn
              rw [hc, decide_eq_true l1, decide_eq_true l2]
              rfl
            repeat walk_at "st"
            refine ⟨z, 0, c, rfl, rfl, hz, by rw [hc]; exact atI_nat (j := 0) rfl, ?_⟩
            repeat walk_at "st"
            refine ⟨c, _, rfl, rfl, _, rfl, ?_⟩
            refine g_ite (fun c3 => ?_) (fun c3 => ?_)
            · refine g_cb (g_cons (g_ls (g_var rfl ?_)))
              refine g_lsM (fun c => .bl (decide (c ∈ ("abcdefghijklmnopqrstuvwxyz0123456789" : Str).cps.toList))) (Nat.le_trans l2 (by decide)) (fun j c H1 hc1 s1 R kR => ?_) fun D H1 s1 d1 => g_nil ?_
              · refine g_op (g_var rfl (g_c ⟨c, _, rfl, rfl, ?_⟩))
                exact kR H1 (Same.refl H1)
              · refine g_allF (bs := z.cps.toList.map fun c => decide (c ∈ ("abcdefghijklmnopqrstuvwxyz0123456789" : Str).cps.toList)) (by rw [List.map_map]; exact d1) ?_
                have e2 : ((z.cps.toList.map fun c => decide (c ∈ ("abcdefghijklmnopqrstuvwxyz0123456789" : Str).cps.toList)).all id) = nameB z := by
                  rw [e, decide_eq_true c3, Bool.true_and]
                  unfold allIn
                  rw [List.all_map]
                  rfl
                rw [e2]
                exact q H1 s1
            · rw [decide_eq_false c3, Bool.false_and] at e
              rw [← e]
              exact q H (Same.refl H)
        · refine g_iteNT c2 ?_
          repeat walk_at "st"
          have e : nameB z = false := by
            unfold nameB
            rw [decide_eq_false (show ¬ z.length ≤ 8 by omega)]
            simp
          rw [← e]
          exact q H (Same.refl H)
      · refine g_bl (iteT ?_)
        repeat walk_at "st"
        have e : nameB z = false := by
          unfold nameB
          rw [decide_eq_false (show ¬ 1 ≤ z.length by omega)]
          simp
        rw [← e]
        exact q H (Same.refl H)
    · refine g_isi (.ty _) ty k1 ?_
      refine g_bl (iteT (iteT ?_))
      repeat walk_at "st"
      exact q H (Same.refl H)
/-- the text itself, as Python's own -/
def spPlain : Sp := fun vs H Q _ => ∃ s : Str, vs = [.str s] ∧ s.length ≤ sizeLine ∧ Q (.str s) H
abbrev sPlainName : Stmt := top 52
theorem scPlainName : FnScope ["name"] ["name"] (defScope sPlainName) := ⟨rfl, rfl, rfl, by decide +kernel, rfl, by decide +kernel, by decide +kernel⟩
theorem cutS_all (z : Str) : cutS z none none = z := by
  have e : (HT.sIx z.length z.length none - HT.sIx z.length 0 none) = z.cps.toList.length := by simp [HT.sIx, Str.length]
  unfold cutS
  rw [e]
  have e2 : HT.sIx z.length 0 none = 0 := by simp [HT.sIx]
  rw [e2, List.drop_zero, List.take_length]
theorem ok_plainName {f : Addr} {fd : FuncData} (F : Fun K "plain_name" "plain_name" sPlainName f fd) : FnOk P w K mg base CX0 1 f fd ["name"] spPlain := by
  refine F.ok scPlainName (fun vs H Q E h => ?_) (fun cdv A outer s H vs Q E hr h => ?_)
  · obtain ⟨v, rfl, _⟩ := h
    rfl
  · obtain ⟨z, rfl, hz, q⟩ := h
    refine ⟨_, pss_one (ps_ret (pe_slice sl_str (pv 0) po_none po_none)), ?_⟩
    refine g_ret ⟨_, rfl, z, rfl, hz, ?_⟩
    show Q (.str (cutS z none none)) H
    rw [cutS_all]
    exact q
end
end My
set_option Elab.async false
set_option maxRecDepth 100000
set_option maxHeartbeats 8000000
namespace My
open PySem PySem.Spec PyProof.Rows L2
theorem Same.seqT' {K : PySem.W.Frag} {H H' : Hp} {a : Addr} {xs : List V} (e : Same H H') (h : SqT K H a xs) : SqT K H' a xs := by
  rcases h with (h | ⟨o, h⟩) | h
  · exact .inl (.inl (e _ _ h))
  · exact .inl (.inr ⟨o, e _ _ h⟩)
  · exact .inr h
theorem tyTup {K : PySem.W.Frag} {H : Hp} {a : Addr} {xs : List V} (h : SqT K H a xs) : TyX K H (.ref a) (.type "tuple") := by
  rcases h with (h | ⟨o, h⟩) | ⟨o, its, n, h, c, _⟩
  · exact .base (.tup h)
  · exact .fTuple h
  · exact .kTuple h c
theorem tySame {K : PySem.W.Frag} {H H' : Hp} {v : V} {t : Value} (h : TyX K H v t) (e : Same H H') : TyX K H' v t := by
  cases h with
  | base b =>
    cases b with
    | non => exact .base .non
    | bl x => exact .base (.bl x)
    | int x => exact .base (.int x)
    | str x => exact .base (.str x)
    | flt x => exact .base (.flt x)
    | lst h => exact .base (.lst (e _ _ h))
    | frz h => exact .base (.frz (e _ _ h))
    | tup h => exact .base (.tup (e _ _ h))
    | dK h => exact .base (.dK (e _ _ h))
    | dT h => exact .base (.dT (e _ _ h))
    | ins h c1 c2 c3 c4 c5 => exact .base (.ins (e _ _ h) c1 c2 c3 c4 c5)
  | byt b => exact .byt b
  | set h => exact .set (e _ _ h)
  | kList a b => exact .kList a b
  | kTuple a b => exact .kTuple a b
  | kDict a b => exact .kDict a b
  | fTuple h => exact .fTuple (e _ _ h)
  | fDict h => exact .fDict (e _ _ h)
/-- a value as a name: which one, if it is one -/
inductive NameK (K : PySem.W.Frag) (H : Hp) : V → Option Str → Prop where
  | str {s : Str} (h : s.length ≤ sizeLine) : NameK K H (.str s) (if nameB s = true then some s else none)
  | other {v : V} {t : Value} (ty : TyX K H v t) (k : PySem.W.kitOne K t (.type "str") = some false) : NameK K H v none
/-- a value as a count of at least 1 -/
inductive CountK (K : PySem.W.Frag) (H : Hp) : V → Option Int → Prop where
  | int {n : Int} : CountK K H (.int n) (if 1 ≤ n then some n else none)
  | other {v : V} {t : Value} {b1 b2 : Bool} (ty : TyX K H v t) (k1 : PySem.W.kitOne K t (.type "int") = some b1) (k2 : b1 = true → PySem.W.kitOne K t (.type "bool") = some b2) (e : (b1 && !b2) = false) : CountK K H v none
def pairOf : Option Str → Option Int → Option (Str × Int)
  | some s, some n => some (s, n)
  | _, _ => none
/-- a value as a pair -/
inductive PairK (K : PySem.W.Frag) (H : Hp) : V → Option (Str × Int) → Prop where
  | no {v : V} {t : Value} (ty : TyX K H v t) (k : PySem.W.kitOne K t (.type "tuple") = some false) : PairK K H v none
  | len {u : Addr} {xs : List V} (q : SqT K H u xs) (n : xs.length ≠ 2) : PairK K H (.ref u) none
  | two {u : Addr} {a b : V} {x : Option Str} {y : Option Int} (q : SqT K H u [a, b]) (h1 : NameK K H a x) (h2 : CountK K H b y) : PairK K H (.ref u) (pairOf x y)
theorem NameK.same {K : PySem.W.Frag} {H H' : Hp} {v : V} {r : Option Str} (h : NameK K H v r) (e : Same H H') : NameK K H' v r := by
  cases h with
  | str h => exact .str h
  | other ty k => exact .other (tySame ty e) k
theorem CountK.same {K : PySem.W.Frag} {H H' : Hp} {v : V} {r : Option Int} (h : CountK K H v r) (e : Same H H') : CountK K H' v r := by
  cases h with
  | int => exact .int
  | other ty k1 k2 z => exact .other (tySame ty e) k1 k2 z
theorem PairK.same {K : PySem.W.Frag} {H H' : Hp} {v : V} {r : Option (Str × Int)} (h : PairK K H v r) (e : Same H H') : PairK K H' v r := by
  cases h with
  | no ty k => exact .no (tySame ty e) k
  | len q n => exact .len (Same.seqT' e q) n
  | two q h1 h2 => exact .two (Same.seqT' e q) (h1.same e) (h2.same e)
/-- the text of a pair that is one -/
theorem PairK.some' {K : PySem.W.Frag} {H : Hp} {v : V} {s : Str} {n : Int} (h : PairK K H v (some (s, n))) : ∃ u, v = .ref u ∧ SqT K H u [.str s, .int n] ∧ nameB s = true ∧ 1 ≤ n ∧ s.length ≤ sizeLine := by
  generalize e : some (s, n) = r at h
  cases h with
  | no ty k => cases e
  | len q n => cases e
  | two q h1 h2 =>
    cases h1 with
    | other ty k =>
      simp [pairOf] at e
    | @str z hz =>
      cases h2 with
      | other ty k1 k2 z =>
        split at e <;> simp [pairOf] at e
      | @int m =>
        by_cases c1 : nameB z = true
        · by_cases c2 : 1 ≤ m
          · rw [if_pos c1, if_pos c2] at e
            cases e
            exact ⟨_, rfl, q, c1, c2, hz⟩
          · rw [if_pos c1, if_neg c2] at e
            cases e
        · rw [if_neg c1] at e
          cases e
theorem PairAt.k {K : PySem.W.Frag} {H : Hp} {v : V} {p : Str × Int} (h : PairAt H v p) (h1 : nameB p.1 = true) (h2 : 1 ≤ p.2) (h3 : p.1.length ≤ sizeLine) : PairK K H v (some p) := by
  obtain ⟨u, rfl, e⟩ := h
  have q := PairK.two (K := K) (H := H) (SqT.of e) (.str h3) .int
  rw [if_pos h1, if_pos h2] at q
  exact q
theorem walk_enumT {K : PySem.W.Frag} {a : Addr} {xs : List V} : Walk (IteT K a) xs.length (fun H => SqT K H a xs) (YPair (fun i => some (.int (i : Nat))) (fun i => xs[i]?)) := by
  refine ⟨fun i _ hi q => ⟨xs, xs[i], q, by simp [hi]⟩, fun _ q => ⟨xs, q, rfl⟩, fun i H v H' _ q y => ?_⟩
  obtain ⟨T, x, h1, h2, h3, h4⟩ := y
  exact ⟨T, .int (i : Nat), x, h1, h2, h3, rfl, h4 xs q⟩
local macro_rules | `(tactic| walk_at "cond") => `(tactic| first
  | exact Or.inr ⟨by decide, by decide⟩ | exact Or.inl ⟨by decide, by decide⟩ | exact ⟨by decide, by decide, by decide⟩ | exact ⟨by decide, by decide⟩
  | (refine Or.inl ⟨?_, ?_⟩ <;> omega) | (refine Or.inr ⟨?_, ?_⟩ <;> omega)
  | (show (0 : Int) < _; omega))
local macro_rules | `(tactic| walk_at "mem") => `(tactic| first | exact List.Mem.head _ | exact List.Mem.tail _ (List.Mem.head _) | exact Put.head | (refine List.Mem.tail _ ?_; walk_at "mem") | (apply Put.tail; walk_at "mem"))
local macro_rules | `(tactic| walk_at "st") => `(tactic| first
  | with_reducible refine g_seq ?_ | with_reducible refine g_asg ?_ | with_reducible refine g_name ?_ | ((with_reducible show tVar _ _ _ _); refine g_var rfl ?_) | with_reducible refine g_c ?_
  | with_reducible refine g_op ?_ | with_reducible refine g_test ?_ | with_reducible refine g_bl ?_
  | with_reducible refine g_cb ?_ | with_reducible refine g_cons ?_ | with_reducible refine g_nil ?_ | with_reducible refine g_tif ?_ | with_reducible refine g_ifs ?_ | with_reducible refine g_ret ?_
  | with_reducible refine g_drop ?_ | with_reducible refine g_next ?_
  | with_reducible refine g_i0 ?_ | ((with_reducible show rI _ _ _ _ _ _); refine g_i (by walk_at "cond") ?_) | with_reducible refine g_int ?_ | with_reducible refine g_abs ?_ | with_reducible refine g_or ?_
  | with_reducible refine g_and ?_ | with_reducible refine g_not ?_ | with_reducible refine g_lst ?_ | with_reducible refine g_tup ?_
  | with_reducible refine iteT ?_ | with_reducible refine iteF ?_ | with_reducible refine g_par ?_ | with_reducible refine g_two ?_ | with_reducible refine g_sub ?_
  | ((with_reducible show rIxL _ (V.ref _) (V.int _) _ _); refine g_ixM (by assumption) (by walk_at "mem") rfl rfl ?_)
  | ((with_reducible show rSetL (V.ref _) (V.int _) _ _ _); refine g_setM (by assumption) rfl (by walk_at "mem") fun _ _ => ?_)
  | with_reducible refine g_xmk ?_ | with_reducible refine g_xmkK ?_
  | ((with_reducible show XNew _ (spI1 _ _) _ _ _); refine g_x1 (by assumption) fun _ _ _ _ => ?_)
  | ((with_reducible show XNewK _ _ (spI1 _ _) _ _ _ _); refine g_x1k (by assumption) fun _ _ _ _ => ?_)
  | ((with_reducible show XNew _ (spI3 _ _ _ _) _ _ _); refine g_x3 (by assumption) fun _ _ _ _ => ?_)
  | ((with_reducible show tXmk0 _ _ _ _); refine g_xmk0 (by assumption) fun _ _ _ => ?_)
  | ((with_reducible show NewO _ _ _ _); refine g_newo (by assumption) (by first | decide | simp) fun _ _ _ _ => ?_)
  | ((with_reducible show rCat (V.ref _) (V.ref _) _ _); refine g_cat (by assumption) (by walk_at "mem") (by walk_at "mem") (by first | decide | simp) fun _ _ _ _ => ?_))

local macro_rules | `(tactic| walk_at "st") => `(tactic| first | with_reducible refine g_tcall ?_ | with_reducible refine g_tb ?_ | with_reducible refine g_andV ?_ | with_reducible refine g_notV ?_ | with_reducible refine g_chain ?_ | with_reducible refine g_un ?_ | with_reducible refine g_rU ?_)
section
variable {P : Program} {w : World} {K : PySem.W.Frag} {mg : Str → Option Value} {base : Heap}
theorem name_of {H : Hp} {Q : VK} {E : XK} {v : V} {x : Option Str} (h : NameK K H v x) (q : ∀ H', Same H H' → Q (.bl x.isSome) H') : spName K [v] H Q E := by
  cases h with
  | @str s hz =>
    refine ⟨_, rfl, .inl ⟨s, rfl, hz, fun H' e => ?_⟩⟩
    have z := q H' e
    by_cases c : nameB s = true
    · rw [if_pos c] at z
      rw [c]
      exact z
    · rw [if_neg c] at z
      rw [Bool.not_eq_true] at c
      rw [c]
      exact z
  | other ty k => exact ⟨_, rfl, .inr ⟨_, ty, k, q⟩⟩
theorem count_of {H : Hp} {Q : VK} {E : XK} {v : V} {y : Option Int} (h : CountK K H v y) (q : Q (.bl y.isSome) H) : spAtLeast K [v, .int 1] H Q E := by
  cases h with
  | @int n =>
    refine ⟨_, 1, rfl, .inl ⟨n, rfl, ?_⟩⟩
    by_cases c : 1 ≤ n
    · rw [if_pos c] at q
      rw [decide_eq_true (show n ≥ 1 from c)]
      exact q
    · rw [if_neg c] at q
      rw [decide_eq_false (show ¬ n ≥ 1 from c)]
      exact q
  | other ty k1 k2 e => exact ⟨_, 1, rfl, .inr ⟨_, _, _, ty, k1, k2, e, q⟩⟩
def spPair (K : PySem.W.Frag) : Sp := fun vs H Q _ => ∃ v r, vs = [v] ∧ PairK K H v r ∧ ∀ H', Same H H' → Q (.bl r.isSome) H'
abbrev sIsPair : Stmt := top 54
theorem scIsPair : FnScope ["value"] ["value"] (defScope sIsPair) := ⟨rfl, rfl, rfl, by decide +kernel, rfl, by decide +kernel, by decide +kernel⟩
theorem g_lenT {H : Hp} {Q : VK} {p : Addr} {ys : List V} (e : SqT K H p ys) (h : Q (.int ys.length) H) : rLen K [.ref p] H Q := ⟨p, ys, rfl, .inr e, h⟩
theorem g_ixTN {H : Hp} {Q : VK} {p : Addr} {xs : List V} {i : Int} {v : V} (e : SqT K H p xs) (a : atI xs i = some v) (h : Q v H) : rIxT K (.ref p) (.int i) H Q := ⟨p, xs, i, v, rfl, rfl, e, a, h⟩
theorem ok_isPair {f : Addr} {fd : FuncData} (F : Fun K "is_pair" "is_pair" sIsPair f fd) (T : BltN mg) (C1 : Cal P w K mg base 1 "is_name" ["value"] (spName K)) (C2 : Cal P w K mg base 2 "is_at_least" ["value", "least"] (spAtLeast K)) :
    FnOk P w K mg base CX0 3 f fd ["value"] (spPair K) := by
  refine F.ok scIsPair (fun vs H Q E h => ?_) (fun cdv A outer s H vs Q E hr h => ?_)
  · obtain ⟨v, _, rfl, _⟩ := h
    rfl
  · obtain ⟨v, r, rfl, h, q⟩ := h
    have hr1 := hr.mono (by decide : 1 ≤ 2)
    refine ⟨_, pss_cons (ps_if (PW.pt (pw_or (pt_not (pt_val (pIsi T.isi (pv 0) (pe_bltn (v := .ty "tuple") rfl T.tuple (by decide +kernel) rfl)))) (pw_or1 (pt_cmpR op_ne (pLen T.len (pv 0)) pe_int (nomark _))))) (pss_one (ps_ret pe_bl)) pss_nil)
      (pss_one (ps_ret (pe_and (pCal C1 hr1 (pa_cons (pe_ix ix_tup (pv 0) pe_int (fun _ _ => rfl)) pa_nil)) (pe_one (pCal C2 hr (pa_cons (pe_ix ix_tup (pv 0) pe_int (fun _ _ => rfl)) (pa_cons pe_int pa_nil))))))), ?_⟩
    repeat walk_at "st"
    cases h with
    | no ty k =>
      refine g_isi (.ty _) ty k (g_bl (iteT (iteT ?_)))
      repeat walk_at "st"
      exact q H (Same.refl H)
    | @len u xs hq n =>
      refine g_isi (.ty _) (tyTup hq) (kit_ty (by decide +kernel) : PySem.W.kitOne K (.type "tuple") (.type "tuple") = some true) (g_bl (iteF ?_))
      repeat walk_at "st"
      refine g_lenT hq ?_
      repeat walk_at "st"
      refine g_neInt (g_bl ?_)
      refine g_iteNT (fun z => n (by
        have y := V.int.inj z
        omega)) ?_
      repeat walk_at "st"
      exact q H (Same.refl H)
    | @two u a b x y hq h1 h2 =>
      refine g_isi (.ty _) (tyTup hq) (kit_ty (by decide +kernel) : PySem.W.kitOne K (.type "tuple") (.type "tuple") = some true) (g_bl (iteF ?_))
      repeat walk_at "st"
      refine g_lenT hq ?_
      repeat walk_at "st"
      refine g_neInt (g_bl ?_)
      refine g_iteNF rfl ?_
      repeat walk_at "st"
      refine g_ixTN hq (atI_nat (j := 0) rfl) ?_
      repeat walk_at "st"
      refine name_of h1 fun H' e => ⟨_, rfl, ?_⟩
      cases x with
      | none =>
        refine iteF ?_
        exact q H' e
      | some z =>
        refine iteT ?_
        repeat walk_at "st"
        refine g_ixTN (Same.seqT' e hq) (atI_nat (j := 1) rfl) ?_
        repeat walk_at "st"
        refine count_of (h2.same e) ?_
        have q := q H' e
        cases y <;> exact q
/-- the index of the first one that is no pair or has a name of one ahead (or of those seen) -/
def wrongFrom : Nat → List Str → List (Option (Str × Int)) → Option Nat
  | _, _, [] => none
  | i, _, none :: _ => some i
  | i, seen, some p :: r => if p.1 ∈ seen then some i else wrongFrom (i + 1) (seen ++ [p.1]) r
theorem g_din {H : Hp} {Q : VK} {σ : L2.St} {ty td : TE} (h : ty σ H fun y H1 => td σ H1 fun x H2 => ∃ a o, x = .ref a ∧ DGet H2 a y o ∧ Q (.bl o.isSome) H2) : tDIn ty td σ H Q := h
theorem g_dput {H : Hp} {σ : L2.St} {D : Ends} {ty td tv : TE} (h : tv σ H fun v H1 => td σ H1 fun x H2 => ty σ H2 fun y H3 => ∃ a H4, x = .ref a ∧ DPut H3 a y v H4 ∧ D.nx σ H4) : sDPut td ty tv D σ H := h
def spWrong (K : PySem.W.Frag) : Sp := fun vs H Q _ => ∃ t xs rs, vs = [.ref t] ∧ SqT K H t xs ∧ Paired (PairK K H) xs rs ∧ xs.length ≤ 1000 ∧ ∀ H', Same H H' → Q (match wrongFrom 0 [] rs with | none => .non | some i => .int (i : Nat)) H'
abbrev sWrong : Stmt := top 55
theorem scWrong : FnScope ["pairs", "seen", "at", "pair"] ["pairs"] (defScope sWrong) := ⟨rfl, rfl, rfl, by decide +kernel, rfl, by decide +kernel, by decide +kernel⟩
theorem valV_seen (seen : List Str) (s : Str) : (valV (seen.map fun z => ((Sum.inr z : Key), V.bl true)) (Sum.inr s)).isSome = decide (s ∈ seen) := by
  induction seen with
  | nil => rfl
  | cons z r ih =>
    unfold valV at ih ⊢
    rw [List.map_cons, List.find?_cons]
    by_cases h : z = s
    · subst h
      simp
    · have e : decide (((Sum.inr z : Key), V.bl true).1 = Sum.inr s) = false := by
        simp [h]
      rw [e]
      simp only [ih]
      simp [h, Ne.symm h]
theorem putK_seen {seen : List Str} {s : Str} (h : s ∉ seen) : putK (seen.map fun z => ((Sum.inr z : Key), V.bl true)) (Sum.inr s) (.bl true) = (seen ++ [s]).map fun z => ((Sum.inr z : Key), V.bl true) := by
  unfold putK
  rw [if_neg, List.map_append]
  · rfl
  · simp only [List.any_eq_true, not_exists, not_and, decide_eq_true_eq]
    intro x hx e
    obtain ⟨z, hz, rfl⟩ := List.mem_map.mp hx
    cases e
    exact h hz
theorem ok_wrong {f : Addr} {fd : FuncData} (F : Fun K "wrong_pair_at" "wrong_pair_at" sWrong f fd) (mEn : mg "enumerate" = none) (C : Cal P w K mg base 3 "is_pair" ["value"] (spPair K)) : FnOk P w K mg base CX0 4 f fd ["pairs"] (spWrong K) := by
  refine F.ok scWrong (fun vs H Q E h => ?_) (fun cdv A outer s H vs Q E hr h => ?_)
  · obtain ⟨v, _, _, rfl, _⟩ := h
    rfl
  · obtain ⟨t, xs, rs, rfl, hS, pr, hl, q⟩ := h
    have hu := hu_of hr
    refine ⟨_, pss_cons (ps_set (i := 1) scWrong.nd rfl (Or.inl rfl) pe_dnewK)
      (pss_cons (ps_for PassesOwn.never rfl (pi_enumT (by rfl) mEn (pa_cons (pv 0) pa_nil)) (pg_tup rfl (pgs_cons (pg_name (i := 2) scWrong.nd rfl (Or.inl rfl)) (pgs_cons (pg_name (i := 3) scWrong.nd rfl (Or.inl rfl)) pgs_nil)))
        (pss_cons (ps_if (PW.pt (pw_or (pt_not (pt_val (pCal C hr (pa_cons (pv 3) pa_nil)))) (pw_or1 (pt_cmp (pc_din hu (pe_ix ix_tup (pv 3) pe_int (fun _ _ => rfl)) (pv 1)))))) (pss_one (ps_ret (pv 2))) pss_nil)
        (pss_one (ps_dput hu (pv 1) (pe_ix ix_tup (pv 3) pe_int (fun _ _ => rfl)) pe_bl rfl))))
      (pss_one (ps_ret pe_non))), ?_⟩
    refine g_seq (g_asg fun d hd => ?_)
    repeat walk_at "st"
    refine ⟨_, rfl, t, xs, rfl, Same.seqT' (fun b o z => by rw [upd_ne (ne_of_none z hd)]; exact z) hS, ?_⟩
    refine for_it walk_enumT (fun i σ H1 => ∃ v2 v3 seen, σ = [some (.ref t), some (.ref d), v2, v3] ∧ Same H H1 ∧ H1 d = some (.dK (seen.map fun z => ((Sum.inr z : Key), V.bl true))) ∧ seen.length = i ∧ wrongFrom i seen (rs.drop i) = wrongFrom 0 [] rs)
      ⟨none, none, [], rfl, (fun b o z => by rw [upd_ne (ne_of_none z hd)]; exact z), upd_same, rfl, rfl⟩ (fun i σ H1 _ ⟨_, _, _, _, s1, _⟩ => Same.seqT' s1 hS) ?_ ?_
    · rintro i x σ H1 H1' hi ⟨v2, v3, seen, rfl, s1, d1, ln, wf⟩ ⟨T, x0, y0, rfl, hT, rfl, e1, e2⟩
      cases e1
      have hir : i < rs.length := by
        rw [← pr.length]
        exact hi
      have er : rs.drop i = rs[i] :: rs.drop (i + 1) := List.drop_eq_getElem_cons hir
      have pk : PairK K H y0 rs[i] := pairedGet pr e2 (List.getElem?_eq_getElem hir)
      rw [er] at wf
      generalize rs[i] = r at pk wf
      generalize hH2 : upd H1 T (.tup [.int (i : Nat), y0]) = H2
      have s2 : Same H1 H2 := fun b o z => by
        rw [← hH2, upd_ne (ne_of_none z hT)]
        exact z
      have d2 := s2 _ _ d1
      have hT2 : H2 T = some (.tup [.int (i : Nat), y0]) := by
        rw [← hH2]
        exact upd_same
      refine ⟨T, _, rfl, SqT.of hT2, rfl, _, _, rfl, g_name ⟨_, _, rfl, g_name ⟨rfl, ?_⟩⟩⟩
      repeat walk_at "st"
      refine ⟨y0, r, rfl, pk.same (s1.trans s2), fun H3 e3 => ?_⟩
      have d3 := e3 _ _ d2
      have s3 := (s1.trans s2).trans e3
      refine g_bl ?_
      cases r with
      | none =>
        refine iteT (iteT ?_)
        repeat walk_at "st"
        have z := q H3 s3
        rw [← wf] at z
        exact z
      | some p =>
        obtain ⟨s, n⟩ := p
        obtain ⟨u, rfl, hq, nb, n1, _⟩ := pk.some'
        refine iteF ?_
        repeat walk_at "st"
        refine g_din ?_
        repeat walk_at "st"
        refine g_ixTN (Same.seqT' s3 hq) (atI_nat (j := 0) rfl) ?_
        repeat walk_at "st"
        refine ⟨d, _, rfl, DGet.k (k := Sum.inr s) d3, ?_⟩
        refine g_bl ?_
        rw [valV_seen]
        refine g_ite (fun c => ?_) (fun c => ?_)
        · repeat walk_at "st"
          have z := q H3 s3
          rw [← wf] at z
          unfold wrongFrom at z
          rw [if_pos c] at z
          exact z
        · repeat walk_at "st"
          refine g_dput (g_c (g_var rfl (g_op (g_var rfl (g_c (g_ixTN (Same.seqT' s3 hq) (atI_nat (j := 0) rfl) ?_))))))
          refine ⟨d, _, rfl, DPut.k (k := Sum.inr s) d3 (small1000 (by rw [List.length_map]; omega)), ?_⟩
          rw [putK_seen c]
          refine ⟨_, _, seen ++ [s], rfl, fun b o z => ?_, upd_same, by rw [List.length_append, ln]; rfl, ?_⟩
          · rw [upd_ne (ne_of_none z hd)]
            exact s3 _ _ z
          · rw [← wf]
            conv => rhs; unfold wrongFrom
            rw [if_neg c]
    · rintro σ H1 ⟨v2, v3, seen, rfl, s1, d1, ln, wf⟩
      dsimp only
      refine g_ret (g_c ?_)
      rw [pr.length, List.drop_length] at wf
      have z := q H1 s1
      rw [← wf] at z
      exact z
end
end My
set_option Elab.async false
set_option maxRecDepth 100000
set_option maxHeartbeats 8000000
namespace My
open PySem PySem.Spec PyProof.Rows L2
theorem perm_lift {α β : Type} (f : α → β) {ys zs : List β} (h : ys.Perm zs) : ∀ ps : List α, zs = ps.map f → ∃ qs : List α, qs.Perm ps ∧ qs.map f = ys := by
  induction h with
  | nil =>
    intro ps e
    have : ps = [] := List.map_eq_nil_iff.mp e.symm
    subst this
    exact ⟨[], .nil, rfl⟩
  | cons x _ ih =>
    intro ps e
    cases ps with
    | nil => cases e
    | cons p ps =>
      rw [List.map_cons] at e
      obtain ⟨rfl, e'⟩ := List.cons.inj e
      obtain ⟨qs, h1, h2⟩ := ih ps e'
      exact ⟨p :: qs, h1.cons p, by rw [List.map_cons, h2]⟩
  | swap x y l =>
    intro ps e
    cases ps with
    | nil => cases e
    | cons p ps =>
      rw [List.map_cons] at e
      obtain ⟨rfl, e2⟩ := List.cons.inj e
      clear e
      cases ps with
      | nil => cases e2
      | cons p2 ps =>
        rw [List.map_cons] at e2
        obtain ⟨rfl, e3⟩ := List.cons.inj e2
        exact ⟨p2 :: p :: ps, .swap _ _ _, by rw [List.map_cons, List.map_cons, e3]⟩
  | trans _ _ ih1 ih2 =>
    intro ps e
    obtain ⟨qs, h1, h2⟩ := ih2 ps e
    obtain ⟨rs, h3, h4⟩ := ih1 qs h2.symm
    exact ⟨rs, h3.trans h1, h4⟩
/-- the dict of pairs -/
def kvOf (ps : List (Str × Int)) : List (Key × V) := ps.map fun p => (Sum.inr p.1, .int p.2)
theorem kvOf_get : ∀ {ps : List (Str × Int)} {p : Str × Int}, (ps.map (·.1)).Nodup → p ∈ ps → valV (kvOf ps) (Sum.inr p.1) = some (.int p.2)
  | q :: ps, p, nd, h => by
    rw [List.map_cons, List.nodup_cons] at nd
    unfold valV kvOf
    rw [List.map_cons, List.find?_cons]
    rcases List.mem_cons.mp h with rfl | h
    · simp
    · have ne : q.1 ≠ p.1 := fun e => nd.1 (e ▸ List.mem_map.mpr ⟨p, h, rfl⟩)
      have e : decide (((Sum.inr q.1 : Key), V.int q.2).1 = Sum.inr p.1) = false := by simp [ne]
      rw [e]
      exact kvOf_get nd.2 h
theorem kvOf_put {ps : List (Str × Int)} {s : Str} {n : Int} (h : s ∉ ps.map (·.1)) : putK (kvOf ps) (Sum.inr s) (.int n) = kvOf (ps ++ [(s, n)]) := by
  unfold putK kvOf
  rw [if_neg, List.map_append]
  · rfl
  · simp only [List.any_eq_true, not_exists, not_and, decide_eq_true_eq]
    intro x hx e
    obtain ⟨z, hz, rfl⟩ := List.mem_map.mp hx
    cases e
    exact h (List.mem_map.mpr ⟨z, hz, rfl⟩)
theorem PairAt.same {H H' : Hp} {v : V} {q : Str × Int} (h : PairAt H v q) (e : Same H H') : PairAt H' v q := by
  obtain ⟨u, rfl, z⟩ := h
  exact ⟨u, rfl, e _ _ z⟩
/-- qs are the pairs ps by name -/
structure Ordered (ps qs : List (Str × Int)) : Prop where
  perm : qs.Perm ps
  sorted : sortedS (qs.map (·.1)) = true
theorem g_dget {H : Hp} {Q : VK} {σ : L2.St} {ty td : TE} (h : td σ H fun x H1 => ty σ H1 fun y H2 => ∃ a v, x = .ref a ∧ DGet H2 a y (some v) ∧ Q v H2) : tDGet td ty σ H Q := h
structure BltS (mg : Str → Option Value) : Prop where
  sorted : mg "sorted" = none
  str : mg "str" = none
  tuple : mg "tuple" = none
  int : mg "int" = none
local macro_rules | `(tactic| walk_at "cond") => `(tactic| first
  | exact Or.inr ⟨by decide, by decide⟩ | exact Or.inl ⟨by decide, by decide⟩ | exact ⟨by decide, by decide, by decide⟩ | exact ⟨by decide, by decide⟩
  | (refine Or.inl ⟨?_, ?_⟩ <;> omega) | (refine Or.inr ⟨?_, ?_⟩ <;> omega)
  | (show (0 : Int) < _; omega))
local macro_rules | `(tactic| walk_at "mem") => `(tactic| first | exact List.Mem.head _ | exact List.Mem.tail _ (List.Mem.head _) | exact Put.head | (refine List.Mem.tail _ ?_; walk_at "mem") | (apply Put.tail; walk_at "mem"))
local macro_rules | `(tactic| walk_at "st") => `(tactic| first
  | with_reducible refine g_seq ?_ | with_reducible refine g_asg ?_ | with_reducible refine g_name ?_ | ((with_reducible show tVar _ _ _ _); refine g_var rfl ?_) | with_reducible refine g_c ?_
  | with_reducible refine g_op ?_ | with_reducible refine g_test ?_ | with_reducible refine g_bl ?_
  | with_reducible refine g_cb ?_ | with_reducible refine g_cons ?_ | with_reducible refine g_nil ?_ | with_reducible refine g_tif ?_ | with_reducible refine g_ifs ?_ | with_reducible refine g_ret ?_
  | with_reducible refine g_drop ?_ | with_reducible refine g_next ?_
  | with_reducible refine g_i0 ?_ | ((with_reducible show rI _ _ _ _ _ _); refine g_i (by walk_at "cond") ?_) | with_reducible refine g_int ?_ | with_reducible refine g_abs ?_ | with_reducible refine g_or ?_
  | with_reducible refine g_and ?_ | with_reducible refine g_not ?_ | with_reducible refine g_lst ?_ | with_reducible refine g_tup ?_
  | with_reducible refine iteT ?_ | with_reducible refine iteF ?_ | with_reducible refine g_par ?_ | with_reducible refine g_two ?_ | with_reducible refine g_sub ?_
  | ((with_reducible show rIxL _ (V.ref _) (V.int _) _ _); refine g_ixM (by assumption) (by walk_at "mem") rfl rfl ?_)
  | ((with_reducible show rSetL (V.ref _) (V.int _) _ _ _); refine g_setM (by assumption) rfl (by walk_at "mem") fun _ _ => ?_)
  | with_reducible refine g_xmk ?_ | with_reducible refine g_xmkK ?_
  | ((with_reducible show XNew _ (spI1 _ _) _ _ _); refine g_x1 (by assumption) fun _ _ _ _ => ?_)
  | ((with_reducible show XNewK _ _ (spI1 _ _) _ _ _ _); refine g_x1k (by assumption) fun _ _ _ _ => ?_)
  | ((with_reducible show XNew _ (spI3 _ _ _ _) _ _ _); refine g_x3 (by assumption) fun _ _ _ _ => ?_)
  | ((with_reducible show tXmk0 _ _ _ _); refine g_xmk0 (by assumption) fun _ _ _ => ?_)
  | ((with_reducible show NewO _ _ _ _); refine g_newo (by assumption) (by first | decide | simp) fun _ _ _ _ => ?_)
  | ((with_reducible show rCat (V.ref _) (V.ref _) _ _); refine g_cat (by assumption) (by walk_at "mem") (by walk_at "mem") (by first | decide | simp) fun _ _ _ _ => ?_))

local macro_rules | `(tactic| walk_at "st") => `(tactic| first | with_reducible refine g_tcall ?_ | with_reducible refine g_tb ?_ | with_reducible refine g_andV ?_ | with_reducible refine g_notV ?_ | with_reducible refine g_chain ?_ | with_reducible refine g_un ?_ | with_reducible refine g_rU ?_)
section
variable {P : Program} {w : World} {K : PySem.W.Frag} {mg : Str → Option Value} {base : Heap}
def rStrS : List V → Hp → VK → Prop := fun xs H Q => ∃ a, xs = [.str a] ∧ Q (.str a) H
def rTupZ (K : PySem.W.Frag) : List V → Hp → VK → Prop := fun xs H Q => ∃ p ys, xs = [.ref p] ∧ SqL K H p ys ∧ ∀ l o, H l = Option.none → o.dict = Option.none → Q (.ref l) (upd H l (.frz o (.tup ys)))
theorem call_tupZ {X : Cx} : CallR X (.type "tuple") (rTupZ X.K) := by
  intro pins s σ H xs us Q I r h
  obtain ⟨p, ys, rfl, hq, q⟩ := h
  obtain ⟨u, rfl, rx⟩ := vals1 r
  cases rx
  obtain ⟨its, r', pl, hz⟩ := I.list hq
  have hlen := r'.length
  refine call_tuple_list pl.isList (fun h' kp => ?_) (by simp only [List.size_toArray] <;> omega)
  have I1 : Inv X pins σ H { s with heap := h' } := I.kept (t' := s.toks) kp
  have I2 : Inv X pins σ (upd H h'.objs.size (.frz { cls := .type "tuple", data := .seq its.toArray } (.tup ys))) { s with heap := h'.push { cls := .type "tuple", data := .seq its.toArray } } :=
    I1.laid (t' := s.toks) (fun b o e => Heap.get?_push_of_some _ e) (Nat.le_refl _) (show ObjOk X.prog X.w _ _ _ (.frz { cls := .type "tuple", data := .seq its.toArray } (.tup ys)) from ⟨Heap.get?_push_size _ rfl, hz, its, r', IsTup.new _ _⟩)
  exact ⟨.ref h'.objs.size, _, I2, rfl, q _ _ (I1.hok.fresh (Nat.le_refl _)) rfl⟩
def spByName (K : PySem.W.Frag) : Sp := fun vs H Q _ => ∃ (d : Addr) (ps : List (Str × Int)), vs = [.ref d] ∧ H d = some (.dK (kvOf ps)) ∧ (ps.map (·.1)).Nodup ∧ ps.length < 64 ∧
  ∀ H' p ts qs, H p = none → Same H H' → TupZ H' p ts → Ordered ps qs → Paired (PairAt H') ts qs → Q (.ref p) H'
abbrev sByName : Stmt := top 57
theorem scByName : FnScope ["counts", "names", "name"] ["counts"] (defScope sByName) := ⟨rfl, rfl, rfl, by decide +kernel, rfl, by decide +kernel, by decide +kernel⟩
theorem ok_byName {f : Addr} {fd : FuncData} (F : Fun K "by_name" "by_name" sByName f fd) (T : BltS mg) : FnOk P w K mg base CX0 1 f fd ["counts"] (spByName K) := by
  refine F.ok scByName (fun vs H Q E h => ?_) (fun cdv A outer s H vs Q E hr h => ?_)
  · obtain ⟨d, _, rfl, _⟩ := h
    rfl
  · obtain ⟨d, ps, rfl, hd, nd, l64, q⟩ := h
    have hu := hu_of hr
    refine ⟨_, pss_cons (ps_set (i := 1) scByName.nd rfl (Or.inl rfl) (pe_callB cr_sortedS (by rfl) T.sorted PyProof.Rows.boot_sorted (pa_cons (pe_lock (pe_lc (te := tCB rStrS (tCons (tVar 2) tNil)) (own := [("name", 2)]) (g := gName 2) rfl scByName.nd (pi_keys (pv 0))
        (blkOk_by (own := [("name", 2)]) (N := ["counts", "names", "name"]) (sc := defScope sByName) (by decide +kernel)) (fun _ _ _ _ _ => pg_name (i := 2) scByName.nd rfl (Or.inl rfl)) (fun _ _ _ _ _ => pts_nil)
        (fun _ _ _ _ _ => pe_callTy (r := rStrS) SkE.call_str_str (by rfl) T.str PyProof.Rows.boot_str (pa_cons (pv 2) pa_nil)))) pa_nil)))
      (pss_one (ps_ret (pe_callTy (r := rTupZ K) call_tupZ (by rfl) T.tuple PyProof.Rows.boot_tuple (pa_cons (pe_lc (te := tTup (tCons (tVar 2) (tCons (tDGet (tVar 0) (tVar 2)) tNil))) (own := [("name", 2)]) (g := gName 2) rfl scByName.nd (pi_list (pv 1))
        (blkOk_by (own := [("name", 2)]) (N := ["counts", "names", "name"]) (sc := defScope sByName) (by decide +kernel)) (fun _ _ _ _ _ => pg_name (i := 2) scByName.nd rfl (Or.inl rfl)) (fun _ _ _ _ _ => pts_nil)
        (fun _ _ _ _ _ => pe_tup (pa_cons (pv 2) (pa_cons (pe_dget hu (pv 0) (pv 2) (fun _ _ => rfl)) pa_nil)))) pa_nil)))), ?_⟩
    refine g_seq (g_asg (g_cb (g_cons ?_)))
    refine ⟨d, _, hd, True.intro, fun od => ?_⟩
    generalize hf : upd H d (.frz od (.dK (kvOf ps))) = Hf
    have ef : Hf d = some (.frz od (.dK (kvOf ps))) := by
      rw [← hf]
      exact upd_same
    have lk : (kvOf ps).length = ps.length := List.length_map _
    refine ⟨_, rfl, d, od, rfl, .inl ⟨_, ef, fun D hD => lc_it walk_keys (fun j H1 => Same Hf H1 ∧ H1 D = some (.lst ((ps.take j).map fun p => V.str p.1))) ⟨fun b o z => by rw [upd_ne (ne_of_none z hD)]; exact z, upd_same⟩ (fun j H1 _ q => q.1 _ _ ef) ?_ ?_⟩⟩
    · rintro j x H1 H1' hj ⟨s1, d1⟩ ⟨rfl, k, v, ek, rfl⟩
      have hj2 : j < ps.length := by
        rw [← lk]
        exact hj
      have ep : ps[j]? = some ps[j] := List.getElem?_eq_getElem hj2
      have ek2 : (Sum.inr ps[j].1, V.int ps[j].2) = (k, v) := by
        have z : (kvOf ps)[j]? = some (Sum.inr ps[j].1, V.int ps[j].2) := by
          unfold kvOf
          rw [List.getElem?_map, ep]
          rfl
        rw [z] at ek
        exact Option.some.inj ek
      cases ek2
      refine g_name ⟨wipe1 _ 2 _, ?_⟩
      unfold tYes
      refine iteT ?_
      refine g_cb (g_cons (g_var rfl (g_nil ⟨_, rfl, ?_⟩)))
      refine ⟨_, d1, ?_, fun b o z => ?_, ?_⟩
      · rw [List.length_map]
        exact Nat.lt_of_le_of_lt (Nat.le_trans (List.length_take_le' _ _) (Nat.le_of_lt l64)) (by decide)
      · rw [upd_ne (ne_of_none z hD)]
        exact s1 _ _ z
      · rw [upd_same, List.take_add_one, ep, List.map_append]
        rfl
    · rintro H1 ⟨s1, d1⟩
      rw [lk, List.take_length] at d1
      refine ⟨s1 _ _ ef, g_nil ?_⟩
      have dD : D ≠ d := fun z => by
        rw [z, ef] at hD
        cases hD
      generalize h2 : upd H1 d (.dK (kvOf ps)) = H2
      have s2 : Same H H2 := fun b o z => by
        rw [← h2]
        by_cases c : b = d
        · rw [c] at z ⊢
          rw [upd_same, ← z, hd]
        · rw [upd_ne c]
          exact s1 _ _ (by rw [← hf, upd_ne c]; exact z)
      have e2 : H2 d = some (.dK (kvOf ps)) := by
        rw [← h2]
        exact upd_same
      have eD : H2 D = some (.lst ((ps.map (·.1)).map V.str)) := by
        rw [← h2, upd_ne dD, d1, List.map_map]
        rfl
      refine ⟨D, ps.map (·.1), rfl, SqL.of eD, by rw [List.length_map]; exact l64, fun ys p perm srt np => ?_⟩
      obtain ⟨qs, pq, eq⟩ := perm_lift (·.1) perm ps rfl
      have h3 : Hs H2 (upd H2 p (.lst (ys.map V.str))) [] [(p, .lst (ys.map V.str))] := Hs.start0.new np
      generalize upd H2 p (.lst (ys.map V.str)) = H3 at h3
      have f2 := h3.kept _ _ e2
      have eP : H3 p = some (.lst (ys.map V.str)) := h3.mem List.mem_cons_self
      have s3 : Same H H3 := s2.trans h3.kept
      have lq : qs.length = ys.length := by
        rw [← eq, List.length_map]
      have lp := pq.length_eq
      have mq : ∀ z ∈ qs, z ∈ ps := fun z hz => pq.mem_iff.mp hz
      refine g_name (g_ret (g_cb (g_cons (g_lc (g_var rfl ?_)))))
      refine ⟨p, rfl, ⟨_, SqL.of eP⟩, fun D2 hD2 => lc_list (xs := ys.map V.str) (fun j H1 => Same H3 H1 ∧ ∃ ts, H1 D2 = some (.lst ts) ∧ Paired (PairAt H1) ts (qs.take j) ∧ ts.length = j)
        ⟨fun b o z => by rw [upd_ne (ne_of_none z hD2)]; exact z, [], upd_same, .nil, rfl⟩ (fun j H1 _ q => SqL.of (q.1 _ _ eP)) ?_ ?_⟩
      · rintro i x H1 hx ⟨s4, ts, d4, pr, lt⟩
        have hi : i < qs.length := by
          have z := (List.getElem?_eq_some_iff.mp hx).1
          rw [List.length_map] at z
          omega
        have eqi : qs[i]? = some qs[i] := List.getElem?_eq_getElem hi
        have ex : x = .str qs[i].1 := by
          rw [← eq, List.map_map, List.getElem?_map, eqi] at hx
          exact (Option.some.inj hx).symm
        subst ex
        have gt : DGet H1 d (.str qs[i].1) (some (.int qs[i].2)) := by
          have z := DGet.k (k := Sum.inr qs[i].1) (s4 _ _ f2)
          rw [kvOf_get nd (mq _ (List.getElem_mem hi))] at z
          exact z
        refine g_name ⟨wipe1 _ 2 _, ?_⟩
        unfold tYes
        refine iteT ?_
        refine g_tup (g_cons (g_var rfl ?_))
        refine g_cons (g_dget (g_var rfl ?_))
        refine g_var rfl ⟨d, _, rfl, gt, g_nil ⟨(by show 2 ≤ sizeLine; decide), fun Tt hT => ?_⟩⟩
        have TD : D2 ≠ Tt := fun z => by
          rw [z, hT] at d4
          cases d4
        have n1 : Same H1 (upd H1 Tt (.tup [.str qs[i].1, .int qs[i].2])) := fun b o z => by
          rw [upd_ne (ne_of_none z hT)]
          exact z
        generalize hn : upd H1 Tt (.tup [.str qs[i].1, .int qs[i].2]) = HT at n1
        have eT : HT Tt = some (.tup [.str qs[i].1, .int qs[i].2]) := by
          rw [← hn]
          exact upd_same
        have dT := n1 _ _ d4
        have off : OffP D2 HT (upd HT D2 (.lst (ts ++ [.ref Tt]))) := fun b o z ne => by
          rw [upd_ne ne]
          exact z
        refine ⟨ts, dT, by rw [lt]; exact small1000 (by omega), fun b o z => ?_, ts ++ [.ref Tt], upd_same, ?_, by rw [List.length_append, lt]; rfl⟩
        · rw [upd_ne (ne_of_none z hD2)]
          exact n1 _ _ (s4 _ _ z)
        · rw [List.take_add_one, eqi]
          refine pairedApp (pairedMono (fun _ _ h => (PairAt.same h n1).off dT off) pr) (.cons ⟨Tt, rfl, off _ _ eT TD.symm⟩ .nil)
      · rintro H1 ⟨s4, ts, d4, pr, lt⟩
        rw [List.length_map, ← lq, List.take_length] at pr
        refine g_nil ⟨D2, ts, rfl, SqL.of d4, fun l ob hl nn => ?_⟩
        have sl : Same H1 (upd H1 l (.frz ob (.tup ts))) := fun b o z => by
          rw [upd_ne (ne_of_none z hl)]
          exact z
        have nl : H l = none := by
          cases z : H l with
          | none => rfl
          | some o =>
            have y := s4 _ _ (s3 _ _ z)
            rw [hl] at y
            cases y
        exact q _ l ts qs nl ((s3.trans s4).trans sl) ⟨ob, upd_same, nn⟩ ⟨pq, by rw [eq]; exact srt⟩ (pairedMono (fun _ _ h => PairAt.same h sl) pr)
theorem putK_take {ps : List (Str × Int)} {i : Nat} (nd : (ps.map (·.1)).Nodup) (hi : i < ps.length) : putK (kvOf (ps.take i)) (Sum.inr ps[i].1) (.int ps[i].2) = kvOf (ps.take (i + 1)) := by
  rw [kvOf_put, List.take_add_one, List.getElem?_eq_getElem hi]
  · rfl
  · intro m
    rw [List.map_take] at m
    obtain ⟨j, hj, ej⟩ := List.getElem_of_mem m
    rw [List.length_take, List.length_map] at hj
    rw [List.getElem_take, List.getElem_map] at ej
    have z := (List.getElem?_inj (i := j) (j := i) (by rw [List.length_map]; omega) nd).mp (by
      rw [List.getElem?_map, List.getElem?_map, List.getElem?_eq_getElem (show j < ps.length by omega), List.getElem?_eq_getElem hi]
      exact congrArg some ej)
    omega
def spPlainPairs (K : PySem.W.Frag) : Sp := fun vs H Q _ => ∃ (t : Addr) (xs : List V) (ps : List (Str × Int)), vs = [.ref t] ∧ SqT K H t xs ∧ Paired (fun v p => PairK K H v (some p)) xs ps ∧ (ps.map (·.1)).Nodup ∧ ps.length < 64 ∧
  ∀ H' p ts qs, H p = none → Same H H' → TupZ H' p ts → Ordered ps qs → Paired (PairAt H') ts qs → Q (.ref p) H'
abbrev sPlainPairs : Stmt := top 58
theorem scPlainPairs : FnScope ["pairs", "name", "count"] ["pairs"] (defScope sPlainPairs) := ⟨rfl, rfl, rfl, by decide +kernel, rfl, by decide +kernel, by decide +kernel⟩
theorem ok_plainPairs {f : Addr} {fd : FuncData} (F : Fun K "plain_pairs" "plain_pairs" sPlainPairs f fd) (T : BltS mg) (C1 : Cal P w K mg base 1 "plain_name" ["name"] spPlain) (C2 : Cal P w K mg base 1 "by_name" ["counts"] (spByName K)) : FnOk P w K mg base CX0 2 f fd ["pairs"] (spPlainPairs K) := by
  refine F.ok scPlainPairs (fun vs H Q E h => ?_) (fun cdv A outer s H vs Q E hr h => ?_)
  · obtain ⟨d, _, _, rfl, _⟩ := h
    rfl
  · obtain ⟨t, xs, ps, rfl, hS, pr, nd, l64, q⟩ := h
    refine ⟨_, pss_one (ps_ret (pCal C2 hr (pa_cons (pe_dc (tk := tCall spPlain [] E0 (tCons (tVar 1) tNil)) (tv := tCB rInt (tCons (tVar 2) tNil)) (own := [("name", 1), ("count", 2)]) (g := gTup K 2 (gCons (gName 1) (gCons (gName 2) gNil))) rfl scPlainPairs.nd (pi_tup (pv 0))
        (blkOk_by (own := [("name", 1), ("count", 2)]) (N := ["pairs", "name", "count"]) (sc := defScope sPlainPairs) (by decide +kernel)) (fun _ _ _ _ _ => pg_tup rfl (pgs_cons (pg_name (i := 1) scPlainPairs.nd rfl (Or.inl rfl)) (pgs_cons (pg_name (i := 2) scPlainPairs.nd rfl (Or.inl rfl)) pgs_nil))) (fun _ _ _ _ _ => pts_nil)
        (fun _ _ _ _ _ => pCal C1 hr (pa_cons (pv 1) pa_nil)) (fun _ _ _ _ _ => pInt T.int (pv 2))) pa_nil))), ?_⟩
    refine g_ret (g_tcall (g_cons ?_))
    have lx : xs.length = ps.length := pr.length
    refine ⟨_, rfl, t, rfl, ⟨_, hS⟩, fun D hD => dc_tup (xs := xs) (fun j H1 => Same H H1 ∧ H1 D = some (.dK (kvOf (ps.take j)))) ⟨fun b o z => by rw [upd_ne (ne_of_none z hD)]; exact z, upd_same⟩ (fun j H1 _ q => Same.seqT' q.1 hS) ?_ ?_⟩
    · rintro i x H1 hx ⟨s1, d1⟩
      have hi : i < ps.length := by
        have z := (List.getElem?_eq_some_iff.mp hx).1
        omega
      have pk : PairK K H x (some (ps[i].1, ps[i].2)) := pairedGet (F := fun v p => PairK K H v (some p)) pr hx (List.getElem?_eq_getElem hi)
      obtain ⟨u, rfl, hq, _, _, hz⟩ := pk.some'
      refine ⟨u, _, rfl, Same.seqT' s1 hq, rfl, _, _, rfl, g_name ⟨_, _, rfl, g_name ⟨rfl, ?_⟩⟩⟩
      refine ⟨rfl, ?_⟩
      unfold tYes
      refine iteT ?_
      refine g_tcall (g_cons (g_var rfl (g_nil ⟨_, rfl, hz, ?_⟩)))
      refine g_cb (g_cons (g_var rfl (g_nil (g_int ?_))))
      refine ⟨kvOf (ps.take i), Sum.inr ps[i].1, rfl, d1, small1000 (by unfold kvOf; rw [List.length_map, List.length_take]; omega), fun b o z => ?_, ?_⟩
      · rw [upd_ne (ne_of_none z hD)]
        exact s1 _ _ z
      · rw [upd_same, putK_take nd hi]
    · rintro H1 ⟨s1, d1⟩
      rw [lx, List.take_length] at d1
      refine g_nil ⟨D, ps, rfl, d1, nd, l64, fun H' p ts qs hp s2 e o pr' => q H' p ts qs ?_ (s1.trans s2) e o pr'⟩
      cases z : H p with
      | none => rfl
      | some o =>
        have y := s1 _ _ z
        rw [hp] at y
        cases y
end
end My
set_option Elab.async false
set_option maxRecDepth 100000
set_option maxHeartbeats 8000000
namespace My
open PySem PySem.Spec PyProof.Rows L2
/-! ### dict(t), t a tuple of pairs -/
structure PairV (h : Heap) (x : Addr × Key × Value × Value) : Prop where
  tup : h.IsTuple x.1 #[x.2.2.1, x.2.2.2]
  key : keyIs x.2.1 x.2.2.1 = true
theorem pairsV {X : Cx} {pins : List (Addr × Obj)} {σ : L2.St} {H : Hp} {s : Shared} (I : Inv X pins σ H s) : ∀ {ts : List V} {ps : List (Str × Int)} {its : List Value}, Paired (PairAt H) ts ps → Vals ts its →
    ∃ L : List (Addr × Key × Value × Value), L.length = ps.length ∧ its = L.map (fun x => Value.ref x.1) ∧ (∀ x ∈ L, PairV s.heap x) ∧ KV (kvOf ps) (L.map fun x => (x.2.1, x.2.2.2))
  | _, _, _, .nil, .nil => ⟨[], rfl, rfl, (fun _ z => nomatch z), .nil⟩
  | _, _, _, .cons (b := p) h t, .cons r rt => by
    obtain ⟨L, h1, h2, h3, h4⟩ := pairsV I t rt
    obtain ⟨u, rfl, e⟩ := h
    cases r
    obtain ⟨its, rv, ht, _⟩ := I.tuple (SqT.of (K := X.K) e)
    obtain ⟨a, b, rfl, ra, rb⟩ := vals2 rv
    refine ⟨(u, Sum.inr p.1, a, b) :: L, by rw [List.length_cons, List.length_cons, h1], by rw [List.map_cons, h2], fun x hx => ?_, .cons ⟨rfl, rb⟩ h4⟩
    rcases List.mem_cons.mp hx with rfl | hx
    · exact ⟨isTup_of ht, kV_is (P := X.prog) (w := X.w) (k := Sum.inr p.1) ra⟩
    · exact h3 x hx
theorem mergeK_kvOf : ∀ (ps as : List (Str × Int)), ((as ++ ps).map (·.1)).Nodup → mergeK (kvOf as) (kvOf ps) = kvOf (as ++ ps)
  | [], as, _ => by
    rw [List.append_nil]
    rfl
  | p :: ps, as, nd => by
    have n1 : p.1 ∉ as.map (·.1) := by
      rw [List.map_append, List.map_cons] at nd
      have z := (List.nodup_append.mp nd).2.2
      intro m
      exact z p.1 m p.1 List.mem_cons_self rfl
    have e : mergeK (kvOf as) (kvOf (p :: ps)) = mergeK (putK (kvOf as) (Sum.inr p.1) (.int p.2)) (kvOf ps) := rfl
    rw [e, kvOf_put n1, mergeK_kvOf ps (as ++ [(p.1, p.2)]) (by rw [List.append_assoc]; exact nd), List.append_assoc]
    rfl
def rDictZ : List V → Hp → VK → Prop := fun xs H Q => ∃ a ts ps, xs = [.ref a] ∧ TupZ H a ts ∧ Paired (PairAt H) ts ps ∧ (ps.map (·.1)).Nodup ∧ ∀ p, H p = Option.none → Q (.ref p) (upd H p (.dK (kvOf ps)))
theorem call_dictZ {X : Cx} (hcalm : X.calm = true) : CallR X (.type "dict") rDictZ := by
  intro pins s σ H xs us Q I r q
  obtain ⟨a, ts, ps, rfl, ⟨ob, ea, nn⟩, pr, nd, q⟩ := q
  obtain ⟨u, rfl, rx⟩ := vals1 r
  cases rx
  obtain ⟨ho, hz, its, rv, o', ho', hc, n, hdat⟩ := (show ObjOk X.prog X.w H s.heap a (.frz ob (.tup ts)) from I.hok a _ ea)
  rw [ho] at ho'
  cases ho'
  obtain ⟨L, l1, l2, l3, rel⟩ := pairsV I pr rv
  have lt : ts.length = ps.length := pr.length
  refine PySem.call_dict_pairs (knd := mixKind X.prog X.w) (kvs := L.map fun x => (x.2.1, x.2.2.2)) (PairArg.tuple a its.toArray (fun j => (L[j]?.map (·.1)).getD 0) (L.map fun x => (x.2.2.1, x.2.2.2))) (I.ok.hd hcalm) ⟨⟨ob, n, ho, hc, nn, hdat⟩, ?_, fun j k v e => ?_⟩ ⟨?_, fun i key v e => ?_⟩ ?_ fun h' tk hd' kp => ?_
  · rw [l2]
    simp
  · rw [List.getElem?_map] at e
    cases c : L[j]? with
    | none =>
      rw [c] at e
      cases e
    | some x =>
      rw [c] at e
      cases e
      refine ⟨?_, ?_⟩
      · rw [l2]
        simp [c]
      · simp only [c]
        exact .inl (l3 x (List.mem_of_getElem? c)).tup
  · simp
  · replace e : (L.map fun x => (x.2.2.1, x.2.2.2))[i]? = some (key, v) := e
    rw [List.getElem?_map] at e
    cases c : L[i]? with
    | none =>
      rw [c] at e
      cases e
    | some x =>
      rw [c] at e
      cases e
      refine ⟨x.2.1, by rw [List.getElem?_map, c]; rfl, (l3 x (List.mem_of_getElem? c)).key⟩
  · rw [List.length_map, l1, ← lt]
    exact hz
  · have hm : (s.heap.objs.size == sysModules) = false := beq_eq_false_iff_ne.mpr (Nat.ne_of_gt I.big)
    have em : mergeK [] (kvOf ps) = kvOf ps := mergeK_kvOf ps [] nd
    have km : KV (kvOf ps) (merged [] (L.map fun x => (x.2.1, x.2.2.2))) := by
      have z := KV.merge rel (kvs := []) (vs := []) .nil
      rw [em] at z
      exact z
    have hlen : (kvOf ps).length ≤ sizeLine := by
      unfold kvOf
      rw [List.length_map, ← lt]
      exact hz
    exact ⟨.ref s.heap.objs.size, upd H s.heap.objs.size (.dK (kvOf ps)), I.laid (t' := tk) (fun b o e => kp b o (fun z => nomatch z) e) (Nat.le_refl _) (show ObjOk X.prog X.w _ _ _ (.dK (kvOf ps)) from ⟨hlen, hm, _, km, hd'⟩), rfl, q _ (I.hok.fresh (Nat.le_refl _))⟩
local macro_rules | `(tactic| walk_at "cond") => `(tactic| first
  | exact Or.inr ⟨by decide, by decide⟩ | exact Or.inl ⟨by decide, by decide⟩ | exact ⟨by decide, by decide, by decide⟩ | exact ⟨by decide, by decide⟩
  | (refine Or.inl ⟨?_, ?_⟩ <;> omega) | (refine Or.inr ⟨?_, ?_⟩ <;> omega)
  | (show (0 : Int) < _; omega))
local macro_rules | `(tactic| walk_at "mem") => `(tactic| first | exact List.Mem.head _ | exact List.Mem.tail _ (List.Mem.head _) | exact Put.head | (refine List.Mem.tail _ ?_; walk_at "mem") | (apply Put.tail; walk_at "mem"))
local macro_rules | `(tactic| walk_at "st") => `(tactic| first
  | with_reducible refine g_seq ?_ | with_reducible refine g_asg ?_ | with_reducible refine g_name ?_ | ((with_reducible show tVar _ _ _ _); refine g_var rfl ?_) | with_reducible refine g_c ?_
  | with_reducible refine g_op ?_ | with_reducible refine g_test ?_ | with_reducible refine g_bl ?_
  | with_reducible refine g_cb ?_ | with_reducible refine g_cons ?_ | with_reducible refine g_nil ?_ | with_reducible refine g_tif ?_ | with_reducible refine g_ifs ?_ | with_reducible refine g_ret ?_
  | with_reducible refine g_drop ?_ | with_reducible refine g_next ?_
  | with_reducible refine g_i0 ?_ | ((with_reducible show rI _ _ _ _ _ _); refine g_i (by walk_at "cond") ?_) | with_reducible refine g_int ?_ | with_reducible refine g_abs ?_ | with_reducible refine g_or ?_
  | with_reducible refine g_and ?_ | with_reducible refine g_not ?_ | with_reducible refine g_lst ?_ | with_reducible refine g_tup ?_
  | with_reducible refine iteT ?_ | with_reducible refine iteF ?_ | with_reducible refine g_par ?_ | with_reducible refine g_two ?_ | with_reducible refine g_sub ?_
  | ((with_reducible show rIxL _ (V.ref _) (V.int _) _ _); refine g_ixM (by assumption) (by walk_at "mem") rfl rfl ?_)
  | ((with_reducible show rSetL (V.ref _) (V.int _) _ _ _); refine g_setM (by assumption) rfl (by walk_at "mem") fun _ _ => ?_)
  | with_reducible refine g_xmk ?_ | with_reducible refine g_xmkK ?_
  | ((with_reducible show XNew _ (spI1 _ _) _ _ _); refine g_x1 (by assumption) fun _ _ _ _ => ?_)
  | ((with_reducible show XNewK _ _ (spI1 _ _) _ _ _ _); refine g_x1k (by assumption) fun _ _ _ _ => ?_)
  | ((with_reducible show XNew _ (spI3 _ _ _ _) _ _ _); refine g_x3 (by assumption) fun _ _ _ _ => ?_)
  | ((with_reducible show tXmk0 _ _ _ _); refine g_xmk0 (by assumption) fun _ _ _ => ?_)
  | ((with_reducible show NewO _ _ _ _); refine g_newo (by assumption) (by first | decide | simp) fun _ _ _ _ => ?_)
  | ((with_reducible show rCat (V.ref _) (V.ref _) _ _); refine g_cat (by assumption) (by walk_at "mem") (by walk_at "mem") (by first | decide | simp) fun _ _ _ _ => ?_))

local macro_rules | `(tactic| walk_at "st") => `(tactic| first | with_reducible refine g_tcall ?_ | with_reducible refine g_tb ?_ | with_reducible refine g_andV ?_ | with_reducible refine g_notV ?_ | with_reducible refine g_chain ?_ | with_reducible refine g_un ?_ | with_reducible refine g_rU ?_)
section
variable {P : Program} {w : World} {K : PySem.W.Frag} {mg : Str → Option Value} {base : Heap}
theorem wrong_none : ∀ (ps : List (Str × Int)) (i : Nat) (seen : List Str), (seen ++ ps.map (·.1)).Nodup → wrongFrom i seen (ps.map some) = none
  | [], _, _, _ => rfl
  | p :: ps, i, seen, nd => by
    rw [List.map_cons]
    unfold wrongFrom
    rw [List.map_cons] at nd
    have n1 : p.1 ∉ seen := fun m => (List.nodup_append.mp nd).2.2 p.1 m p.1 List.mem_cons_self rfl
    rw [if_neg n1]
    exact wrong_none ps (i + 1) (seen ++ [p.1]) (by rw [List.append_assoc]; exact nd)
/-- what pairs make a load -/
structure OkPairs (ps : List (Str × Int)) : Prop where
  name : ∀ p ∈ ps, nameB p.1 = true
  count : ∀ p ∈ ps, 1 ≤ p.2
  nd : (ps.map (·.1)).Nodup
  few : ps.length < 64
theorem nameB_len {s : Str} (h : nameB s = true) : s.length ≤ sizeLine := by
  unfold nameB at h
  simp only [Bool.and_eq_true, decide_eq_true_eq] at h
  exact Nat.le_trans h.2.1 (by decide)
theorem pairK_all {H : Hp} : ∀ {ts : List V} {ps : List (Str × Int)}, Paired (PairAt H) ts ps → (∀ p ∈ ps, nameB p.1 = true) → (∀ p ∈ ps, 1 ≤ p.2) → Paired (fun v p => PairK K H v (some p)) ts ps
  | _, _, .nil, _, _ => .nil
  | _, _, .cons (b := p) h t, h1, h2 => .cons (PairAt.k h (h1 p List.mem_cons_self) (h2 p List.mem_cons_self) (nameB_len (h1 p List.mem_cons_self))) (pairK_all t (fun q hq => h1 q (List.mem_cons_of_mem _ hq)) fun q hq => h2 q (List.mem_cons_of_mem _ hq))
theorem pairK_rs {H : Hp} : ∀ {ts : List V} {ps : List (Str × Int)}, Paired (fun v p => PairK K H v (some p)) ts ps → Paired (PairK K H) ts (ps.map some)
  | _, _, .nil => .nil
  | _, _, .cons h t => .cons h (pairK_rs t)
theorem g_sfld {H : Hp} {σ : L2.St} {D : Ends} {ta tv : TE} {f : Str} (h : tv σ H fun y H1 => ta σ H1 fun x H2 => ∃ a C dx fs, x = .ref a ∧ H2 a = some (.ins C dx fs) ∧ Cls K C ∧ NoAttr K C f ∧ fs.length < 1000 ∧ D.nx σ (upd H2 a (.ins C dx (putF f y fs)))) : sFld K ta tv f D σ H := h
theorem g_fld {H : Hp} {Q : VK} {σ : L2.St} {ta : TE} {f : Str} (h : ta σ H fun x H1 => ∃ a C dx fs v, x = .ref a ∧ H1 a = some (.ins C dx fs) ∧ Cls K C ∧ NoAttr K C f ∧ fs.lookup f = some v ∧ Q v H1) : tFld K ta f σ H Q := h
theorem pairOffI {x C dx : Addr} {fs : List (Str × V)} {H H' : Hp} {v : V} {q : Str × Int} (h : PairAt H v q) (hp : H x = some (.ins C dx fs)) (o : OffP x H H') : PairAt H' v q := by
  obtain ⟨u, rfl, e⟩ := h
  refine ⟨u, rfl, o _ _ e fun z => ?_⟩
  rw [z, hp] at e
  cases e
theorem tupOffI {x C dx t : Addr} {fs : List (Str × V)} {H H' : Hp} {ts : List V} (h : TupZ H t ts) (hp : H x = some (.ins C dx fs)) (o : OffP x H H') : TupZ H' t ts := by
  obtain ⟨ob, e, n⟩ := h
  refine ⟨ob, o _ _ e fun z => ?_, n⟩
  rw [z, hp] at e
  cases e
theorem offUpd {H : Hp} {x : Addr} {o : HO} : OffP x H (upd H x o) := fun b u e n => by
  rw [upd_ne n]
  exact e
theorem sameNew {H : Hp} {x : Addr} {o : HO} (h : H x = none) : Same H (upd H x o) := fun b u e => by
  rw [upd_ne (ne_of_none e h)]
  exact e
abbrev sLoadInit : Stmt := inClass (top 69) 0
theorem scLoadInit : FnScope ["self", "pairs", "wrong"] ["self", "pairs"] (defScope sLoadInit) := ⟨rfl, rfl, rfl, by decide +kernel, rfl, by decide +kernel, by decide +kernel⟩
theorem ok_loadInit {f C : Addr} {fd : FuncData} (F : Fun K "__init__" "Load.__init__" sLoadInit f fd) (cl : Cls K C) (n1 : NoAttr K C "_pairs") (n2 : NoAttr K C "_counts") (mD : mg "dict" = none) (C1 : Cal P w K mg base 4 "wrong_pair_at" ["pairs"] (spWrong K)) (C2 : Cal P w K mg base 2 "plain_pairs" ["pairs"] (spPlainPairs K)) :
    FnR P w K mg base CX0 5 f (spStar1 (spInit C OkPairs Ordered)) := by
  obtain ⟨oc, od, kV, doc, pm, an, cdv, ct, osl, rfl, lk, hcd⟩ := F.ex
  refine StX.fn_star (ps := ["self"]) (pv := "pairs") lk hcd scLoadInit StX.cxUp_none (StX.bind_star1 (B := fun vs => bindArgs _ ⟨vs, []⟩) (fun a => rfl) fun a r rs => rfl) fun A outer s H vs Q E hr h => ?_
  obtain ⟨x, dx, q, rest, ps, rfl, hx, hdx, hq, pr, ok, k⟩ := h
  have hr2 := hr.mono (by decide : 2 ≤ 4)
  have pk := pairK_all (K := K) pr ok.name ok.count
  suffices z : ∃ t, PSs (cxOf CX0 P w K mg base ["self", "pairs", "wrong"] "Load.__init__" (defScope sLoadInit) f cdv A outer s H E).nox (defBody sLoadInit) t ∧ t { nx := fun _ H' => Q .non H', rt := Q } (L2.start ["self", "pairs", "wrong"] [.ref x, .ref q]) H by
    obtain ⟨t, h1, h2⟩ := z
    exact ⟨t, h1.nox, h2⟩
  refine ⟨_, pss_cons (ps_set (i := 2) scLoadInit.nd rfl (Or.inl rfl) (pCal C1 hr (pa_cons (pv 1) pa_nil)))
    (pss_cons (ps_if (pt_cmpR op_notN (pv 2) pe_non (nomark _)) (pss_one ps_never) pss_nil)
    (pss_cons (ps_fld (pv 0) (pCal C2 hr2 (pa_cons (pv 1) pa_nil)) rfl)
    (pss_one (ps_fld (pv 0) (pe_callTy (r := rDictZ) (call_dictZ rfl) (by rfl) mD PyProof.Rows.boot_dict (pa_cons (pe_fld (pv 0) rfl) pa_nil)) rfl)))), ?_⟩
  repeat walk_at "st"
  refine ⟨q, rest, ps.map some, rfl, SqT.of hq, pairK_rs pk, ?_, fun H1 s1 => ?_⟩
  · rw [pr.length]
    exact Nat.le_trans (Nat.le_of_lt ok.few) (by decide)
  rw [wrong_none ps 0 [] (by simpa using ok.nd)]
  repeat walk_at "st"
  refine ⟨rfl, ?_⟩
  refine g_bl ?_
  refine g_iteNF rfl ?_
  repeat walk_at "st"
  refine g_sfld (g_tcall (g_cons (g_var rfl (g_nil ?_))))
  refine ⟨q, rest, ps, rfl, Same.seqT' s1 (SqT.of hq), pairedMono (fun _ _ h => PairK.same h s1) pk, ok.nd, ok.few, fun H2 t ts qs ht s2 tz od pr2 => ?_⟩
  have s12 := s1.trans s2
  have hx2 := s12 _ _ hx
  refine g_var rfl ⟨x, C, dx, [], rfl, hx2, cl, n1, (by show 0 < 1000; omega), ?_⟩
  have o1 : OffP x H2 (upd H2 x (.ins C dx (putF "_pairs" (.ref t) []))) := offUpd
  have hx3 : upd H2 x (.ins C dx (putF "_pairs" (.ref t) [])) x = some (.ins C dx (putF "_pairs" (.ref t) [])) := upd_same
  generalize upd H2 x (.ins C dx (putF "_pairs" (.ref t) [])) = H3 at o1 hx3
  refine g_sfld (g_cb (g_cons (g_fld (g_var rfl ?_))))
  refine ⟨x, C, dx, _, _, rfl, hx3, cl, n1, rfl, g_nil ?_⟩
  have tz3 := tupOffI tz hx2 o1
  have pr3 := pairedMono (fun _ _ h => pairOffI h hx2 o1) pr2
  have nq : (qs.map (·.1)).Nodup := (od.perm.map (·.1)).nodup_iff.mpr ok.nd
  refine ⟨t, ts, qs, rfl, tz3, pr3, nq, fun d hd => ?_⟩
  have s4 : Same H3 (upd H3 d (.dK (kvOf qs))) := sameNew hd
  have hd4 : upd H3 d (.dK (kvOf qs)) d = some (.dK (kvOf qs)) := upd_same
  generalize upd H3 d (.dK (kvOf qs)) = H4 at s4 hd4
  have hx4 := s4 _ _ hx3
  refine g_var rfl ⟨x, C, dx, _, rfl, hx4, cl, n2, (by show 1 < 1000; omega), ?_⟩
  have o5 : OffP x H4 (upd H4 x (.ins C dx (putF "_counts" (.ref d) (putF "_pairs" (.ref t) [])))) := offUpd
  have hx5 : upd H4 x (.ins C dx (putF "_counts" (.ref d) (putF "_pairs" (.ref t) []))) x = some (.ins C dx (putF "_counts" (.ref d) (putF "_pairs" (.ref t) []))) := upd_same
  have nd5 : d ≠ x := fun z => by
    rw [z, hx3] at hd
    cases hd
  refine k _ (.ins C dx [("_pairs", .ref t), ("_counts", .ref d)]) qs ⟨fun y hy => ?_, List.nodup_cons.mpr ⟨(fun z => nomatch z), List.nodup_nil⟩, fun b o e hb => ?_, fun y hy z => absurd hy (fun _ => ?_)⟩ od ⟨dx, t, d, ts, hx5, tupOffI (tz3.same s4) hx4 o5, pairedMono (fun _ _ h => pairOffI (PairAt.same h s4) hx4 o5) pr3, o5 _ _ hd4 nd5⟩
  · rw [List.mem_singleton.mp hy]
    exact hx5
  · have ne : b ≠ x := fun z => hb (by rw [z]; exact List.mem_cons_self)
    exact o5 _ _ (s4 _ _ (o1 _ _ (s12 _ _ e) ne)) ne
  · rw [List.mem_singleton.mp hy] at z
    exact z List.mem_cons_self
end
end My
set_option Elab.async false
set_option maxRecDepth 100000
set_option maxHeartbeats 8000000
namespace My
open PySem PySem.Spec PyProof.Rows L2
local macro_rules | `(tactic| walk_at "cond") => `(tactic| first
  | exact Or.inr ⟨by decide, by decide⟩ | exact Or.inl ⟨by decide, by decide⟩ | exact ⟨by decide, by decide, by decide⟩ | exact ⟨by decide, by decide⟩
  | (refine Or.inl ⟨?_, ?_⟩ <;> omega) | (refine Or.inr ⟨?_, ?_⟩ <;> omega)
  | (show (0 : Int) < _; omega))
local macro_rules | `(tactic| walk_at "mem") => `(tactic| first | exact List.Mem.head _ | exact List.Mem.tail _ (List.Mem.head _) | exact Put.head | (refine List.Mem.tail _ ?_; walk_at "mem") | (apply Put.tail; walk_at "mem"))
local macro_rules | `(tactic| walk_at "st") => `(tactic| first
  | with_reducible refine g_seq ?_ | with_reducible refine g_asg ?_ | with_reducible refine g_name ?_ | ((with_reducible show tVar _ _ _ _); refine g_var rfl ?_) | with_reducible refine g_c ?_
  | with_reducible refine g_op ?_ | with_reducible refine g_test ?_ | with_reducible refine g_bl ?_
  | with_reducible refine g_cb ?_ | with_reducible refine g_cons ?_ | with_reducible refine g_nil ?_ | with_reducible refine g_tif ?_ | with_reducible refine g_ifs ?_ | with_reducible refine g_ret ?_
  | with_reducible refine g_drop ?_ | with_reducible refine g_next ?_
  | with_reducible refine g_i0 ?_ | ((with_reducible show rI _ _ _ _ _ _); refine g_i (by walk_at "cond") ?_) | with_reducible refine g_int ?_ | with_reducible refine g_abs ?_ | with_reducible refine g_or ?_
  | with_reducible refine g_and ?_ | with_reducible refine g_not ?_ | with_reducible refine g_lst ?_ | with_reducible refine g_tup ?_
  | with_reducible refine iteT ?_ | with_reducible refine iteF ?_ | with_reducible refine g_par ?_ | with_reducible refine g_two ?_ | with_reducible refine g_sub ?_
  | ((with_reducible show rIxL _ (V.ref _) (V.int _) _ _); refine g_ixM (by assumption) (by walk_at "mem") rfl rfl ?_)
  | ((with_reducible show rSetL (V.ref _) (V.int _) _ _ _); refine g_setM (by assumption) rfl (by walk_at "mem") fun _ _ => ?_)
  | with_reducible refine g_xmk ?_ | with_reducible refine g_xmkK ?_
  | ((with_reducible show XNew _ (spI1 _ _) _ _ _); refine g_x1 (by assumption) fun _ _ _ _ => ?_)
  | ((with_reducible show XNewK _ _ (spI1 _ _) _ _ _ _); refine g_x1k (by assumption) fun _ _ _ _ => ?_)
  | ((with_reducible show XNew _ (spI3 _ _ _ _) _ _ _); refine g_x3 (by assumption) fun _ _ _ _ => ?_)
  | ((with_reducible show tXmk0 _ _ _ _); refine g_xmk0 (by assumption) fun _ _ _ => ?_)
  | ((with_reducible show NewO _ _ _ _); refine g_newo (by assumption) (by first | decide | simp) fun _ _ _ _ => ?_)
  | ((with_reducible show rCat (V.ref _) (V.ref _) _ _); refine g_cat (by assumption) (by walk_at "mem") (by walk_at "mem") (by first | decide | simp) fun _ _ _ _ => ?_))

local macro_rules | `(tactic| walk_at "st") => `(tactic| first | with_reducible refine g_tcall ?_ | with_reducible refine g_tb ?_ | with_reducible refine g_andV ?_ | with_reducible refine g_notV ?_ | with_reducible refine g_chain ?_ | with_reducible refine g_un ?_ | with_reducible refine g_rU ?_)
section
variable {P : Program} {w : World} {K : PySem.W.Frag} {mg : Str → Option Value} {base : Heap}
def sumP (ps : List (Str × Int)) : Int := (ps.map (·.2)).sum
def spSize (C : Addr) : Sp := fun vs H Q _ => ∃ a ps, vs = [.ref a] ∧ LoadAt C H a ps ∧ ps.length ≤ 1000 ∧ ∀ H', Same H H' → Q (.int (sumP ps)) H'
abbrev sSize : Stmt := inClass (top 69) 5
theorem scSize : FnScope ["self", "_", "count"] ["self"] (defScope sSize) := ⟨rfl, rfl, rfl, by decide +kernel, rfl, by decide +kernel, by decide +kernel⟩
theorem ok_size {f C : Addr} {fd : FuncData} (F : Fun K "size" "Load.size" sSize f fd) (cl : Cls K C) (n1 : NoAttr K C "_pairs") (mS : mg "sum" = none) : FnOk P w K mg base CX0 1 f fd ["self"] (spSize C) := by
  refine F.ok scSize (fun vs H Q E h => ?_) (fun cdv A outer s H vs Q E hr h => ?_)
  · obtain ⟨a, _, rfl, _⟩ := h
    rfl
  · obtain ⟨a, ps, rfl, ⟨dx, t, d, ts, e1, tz, pr, e3⟩, hl, q⟩ := h
    refine ⟨_, pss_one (ps_ret (pe_callB (cr_sum rfl) (by rfl) mS PyProof.Rows.boot_sum (pa_cons (pe_lc (te := tVar 2) (own := [("_", 1), ("count", 2)]) (g := gTup K 2 (gCons (gName 1) (gCons (gName 2) gNil))) rfl scSize.nd (pi_tup (pe_fld (pv 0) rfl))
      (blkOk_by (own := [("_", 1), ("count", 2)]) (N := ["self", "_", "count"]) (sc := defScope sSize) (by decide +kernel)) (fun _ _ _ _ _ => pg_tup rfl (pgs_cons (pg_name (i := 1) scSize.nd rfl (Or.inl rfl)) (pgs_cons (pg_name (i := 2) scSize.nd rfl (Or.inl rfl)) pgs_nil))) (fun _ _ _ _ _ => pts_nil)
      (fun _ _ _ _ _ => pv 2)) pa_nil))), ?_⟩
    refine g_ret (g_cb (g_cons ?_))
    have lx : ts.length = ps.length := pr.length
    refine ⟨_, rfl, a, C, dx, _, _, rfl, e1, cl, n1, rfl, t, rfl, ⟨ts, tz.seq⟩, fun D hD => lc_tup (xs := ts) (fun j H1 => Same H H1 ∧ H1 D = some (.lst (((ps.take j).map (·.2)).map V.int))) ⟨sameNew hD, upd_same⟩ (fun j H1 _ q => Same.seqT' q.1 tz.seq) ?_ ?_⟩
    · rintro i x H1 hx ⟨s1, d1⟩
      have hi : i < ps.length := by
        have z := (List.getElem?_eq_some_iff.mp hx).1
        omega
      have ep : ps[i]? = some ps[i] := List.getElem?_eq_getElem hi
      obtain ⟨u, rfl, eu⟩ := pairedGet pr hx ep
      refine ⟨u, _, rfl, SqT.of (s1 _ _ eu), rfl, _, _, rfl, g_name ⟨_, _, rfl, g_name ⟨rfl, ?_⟩⟩⟩
      refine ⟨rfl, ?_⟩
      unfold tYes
      refine iteT ?_
      refine g_var rfl ⟨_, d1, ?_, fun b o z => ?_, ?_⟩
      · rw [List.length_map, List.length_map, List.length_take]
        exact small1000 (by omega)
      · rw [upd_ne (ne_of_none z hD)]
        exact s1 _ _ z
      · rw [upd_same, List.take_add_one, ep, List.map_append, List.map_append]
        rfl
    · rintro H1 ⟨s1, d1⟩
      rw [lx, List.take_length] at d1
      exact g_nil ⟨D, ps.map (fun p : Str × Int => p.2), rfl, SqL.of d1, q H1 s1⟩
/-- the figures of a number below 10 ** 64 -/
def spFig : Sp := fun vs H Q _ => ∃ n : Int, vs = [.int n] ∧ 0 ≤ n ∧ n < 10 ^ 64 ∧ ∀ H', Same H H' → Q (.str (toString n : String)) H'
abbrev sFig : Stmt := top 43
theorem scFig : FnScope ["number", "base", "pieces", "low"] ["number"] (defScope sFig) := ⟨rfl, rfl, rfl, by decide +kernel, rfl, by decide +kernel, by decide +kernel⟩
theorem log_small {n : Int} (h0 : 0 ≤ n) (h : n < 10 ^ 64) : n.natAbs.log2 < 1920 := by
  by_cases z : n.natAbs = 0
  · rw [z]
    decide
  · rw [Nat.log2_lt z]
    have e : n.natAbs < 10 ^ 64 := by omega
    exact Nat.lt_of_lt_of_le e (Nat.le_of_lt (by decide +kernel))
theorem join_one (s : Str) : Txt.join "" [s] = s := by rfl
theorem ok_fig {f : Addr} {fd : FuncData} (F : Fun K "figures_of" "figures_of" sFig f fd) (mS : mg "str" = none) : FnOk P w K mg base CX0 1 f fd ["number"] spFig := by
  refine F.ok scFig (fun vs H Q E h => ?_) (fun cdv A outer s H vs Q E hr h => ?_)
  · obtain ⟨a, rfl, _⟩ := h
    rfl
  · obtain ⟨n, rfl, n0, n1, q⟩ := h
    refine ⟨_, pss_cons (ps_set (i := 1) scFig.nd rfl (Or.inl rfl) (pe_op op_pow pe_int pe_int))
      (pss_cons (ps_set (i := 2) scFig.nd rfl (Or.inl rfl) (pe_lst pa_nil))
      (pss_cons (ps_while PassesOwn.never (pt_cmpR op_ge (pv 0) (pv 1) (nomark _)) pss_never)
      (pss_cons (ps_expr (pe_bm PySem.F.plainAttrs_list PySem.F.slot_list_append PySem.F.type_list_append mt_append (pv 2) (pa_cons (pe_callTy call_str_int (by rfl) mS PyProof.Rows.boot_str (pa_cons (pv 0) pa_nil)) pa_nil)))
      (pss_one (ps_ret (pe_join pe_str (pe_revL (pv 2)))))))), ?_⟩
    have h0 : Hs H H [] [] := Hs.start0
    repeat walk_at "st"
    rename_i p H1 np h1
    have c : ¬ (n ≥ 10 ^ Int.toNat 64) := by
      show ¬ (n ≥ (10 : Int) ^ 64)
      omega
    refine ⟨fun m σ' H' => σ' = [some (.int n), some (.int (10 ^ Int.toNat 64)), some (.ref p), none] ∧ H' = H1, ⟨0, rfl, rfl⟩, ?_⟩
    rintro m σ' H' ⟨rfl, rfl⟩
    repeat walk_at "st"
    refine g_iteF c ?_
    repeat walk_at "st"
    refine g_bm2 (g_var rfl (g_tyL h1 (by walk_at "mem") ?_))
    refine g_cons (g_cb (g_cons (g_var rfl ?_)))
    refine g_nil ⟨n, rfl, log_small n0 n1, g_nil ?_⟩
    refine g_app h1 (by walk_at "mem") (by simp) fun H2 h2 => ?_
    dsimp only
    refine g_ret ?_
    refine ⟨⟨_, rfl⟩, ?_⟩
    refine ⟨.ref p, rfl, p, _, rfl, SqL.of (h2.mem (by walk_at "mem")), fun p2 np2 => ?_⟩
    have h3 := h2.new (o := .lst [.str (toString n : String)]) np2
    have tl := int_text_len_1921 (log_small n0 n1)
    refine ⟨"", p2, [((toString n : String) : Str)], rfl, rfl, .inl (SqL.of (h3.mem (by walk_at "mem"))), ?_, ?_⟩
    · show ((toString n : String) : Str).length + 0 + 1 * ("" : Str).length ≤ 16777216
      have e0 : ("" : Str).length = 0 := rfl
      omega
    · have e : Txt.join "" [((toString n : String) : Str)] = ((toString n : String) : Str) := join_one _
      rw [e]
      exact q _ h3.kept
/-- what a load shows -/
def loadText (ps : List (Str × Int)) : Str := ((((Str.empty ++ ("Load(" : Str)) ++ ((toString (ps.length : Int) : String) : Str)) ++ (" names, size " : Str)) ++ ((toString (sumP ps) : String) : Str)) ++ (")" : Str)
def spRepr (C : Addr) : Sp := fun vs H Q _ => ∃ a ps, vs = [.ref a] ∧ LoadAt C H a ps ∧ ps.length ≤ 1000 ∧ 0 ≤ sumP ps ∧ sumP ps < 10 ^ 64 ∧ ∀ H', Same H H' → Q (.str (loadText ps)) H'
theorem g_prop {C : Addr} {sp : Sp} {dvs : List V} {E : XK} {ta : TE} {σ : L2.St} {H : Hp} {Q : VK} (h : ta σ H fun x H1 => ∃ a dx fs, x = .ref a ∧ H1 a = some (.ins C dx fs) ∧ sp (.ref a :: dvs) H1 Q E) : tProp C sp dvs E ta σ H Q := h
abbrev sRepr : Stmt := inClass (top 69) 22
theorem scRepr : FnScope ["self"] ["self"] (defScope sRepr) := ⟨rfl, rfl, rfl, by decide +kernel, rfl, by decide +kernel, by decide +kernel⟩
theorem LoadAt.same {C a : Addr} {H H' : Hp} {ps : List (Str × Int)} (h : LoadAt C H a ps) (e : Same H H') : LoadAt C H' a ps := by
  obtain ⟨dx, t, d, ts, e1, tz, pr, e3⟩ := h
  exact ⟨dx, t, d, ts, e _ _ e1, tz.same e, pairedMono (fun _ _ h => PairAt.same h e) pr, e _ _ e3⟩
theorem ok_repr {f C pSize gSize : Addr} {fd fdS : FuncData} (F : Fun K "__repr__" "Load.__repr__" sRepr f fd) (cl : Cls K C) (n1 : NoAttr K C "_pairs") (mL : mg "len" = none) (hp : PropOf K C "size" pSize gSize) (FS : FnOk P w K mg base CX0 1 gSize fdS ["self"] (spSize C)) (bS : Binds K fdS ["self"] [])
    (C1 : Cal P w K mg base 1 "figures_of" ["number"] spFig) : FnOk P w K mg base CX0 3 f fd ["self"] (spRepr C) := by
  refine F.ok scRepr (fun vs H Q E h => ?_) (fun cdv A outer s H vs Q E hr h => ?_)
  · obtain ⟨a, _, rfl, _⟩ := h
    rfl
  · obtain ⟨a, ps, rfl, la, hl, z0, z1, q⟩ := h
    obtain ⟨dx, t, d, ts, e1, tz, pr, e3⟩ := id la
    refine ⟨_, pss_one (ps_ret (pe_joined (PJ.cons pe_str (PJ.cons (pe_fmt (pLen mL (pe_fld (pv 0) rfl))) (PJ.cons pe_str (PJ.cons (pe_fmt (pCal C1 (hr.mono (by decide : 1 ≤ 2)) (pa_cons (pe_prop (pv 0) cl hp FS hr bS .nil pass0 rfl) pa_nil))) (PJ.cons pe_str PJ.nil))))))), ?_⟩
    refine g_ret ?_
    have l1 : (((ps.length : Int)).natAbs.log2) < 1920 := log_small (by omega) (by
      have : (1000 : Int) < 10 ^ 64 := by decide +kernel
      omega)
    have t1 := int_text_len_1921 l1
    have t2 := int_text_len_1921 (log_small z0 z1)
    have lt : ts.length = ps.length := pr.length
    have c0 : Str.empty.length = 0 := rfl
    have c1 : ("Load(" : Str).length = 5 := rfl
    have c2 : (" names, size " : Str).length = 13 := rfl
    have c3 : (")" : Str).length = 1 := rfl
    refine ⟨_, rfl, by rw [sizeLine_eq]; simp only [strLen_append]; omega, ?_⟩
    refine g_cb (g_cons (g_fld (g_var rfl ⟨a, C, dx, _, _, rfl, e1, cl, n1, rfl, ?_⟩)))
    refine g_nil (g_lenT tz.seq ?_)
    rw [lt]
    refine .inr ⟨_, rfl, l1, _, rfl, by rw [sizeLine_eq]; simp only [strLen_append]; omega, ?_⟩
    refine ⟨_, rfl, by rw [sizeLine_eq]; simp only [strLen_append]; omega, ?_⟩
    refine g_tcall (g_cons (g_prop (g_var rfl ?_)))
    refine ⟨a, dx, _, rfl, e1, a, ps, rfl, la, hl, fun H1 s1 => ?_⟩
    refine g_nil ⟨sumP ps, rfl, z0, z1, fun H2 s2 => ?_⟩
    refine .inl ⟨_, rfl, by rw [sizeLine_eq]; omega, _, rfl, by rw [sizeLine_eq]; simp only [strLen_append]; omega, ?_⟩
    refine ⟨_, rfl, by rw [sizeLine_eq]; simp only [strLen_append]; omega, ?_⟩
    exact q H2 (s1.trans s2)
end
end My
set_option Elab.async false
set_option maxRecDepth 100000
set_option maxHeartbeats 8000000
namespace My
open PySem PySem.Spec PyProof.Rows L2
theorem ox_of {K : PySem.W.Frag} {newId : String} {bmB : List Value} {C : Addr} (h : oxT K newId bmB C = oxE) : OxC K C newId bmB ∧ OxI K C := by
  simp only [oxT, oxE, Prod.mk.injEq] at h
  obtain ⟨⟨h1, h2, h3, h4⟩, ⟨h5, h6, h7, h8⟩, h9, h10, h11⟩ := h
  exact ⟨⟨h1, h2, h3, h5, h6, h7, h9, h10, h4⟩, h8, h11⟩
theorem rep_all {α β : Type} {f : α → β} {e : β} : ∀ {xs : List α} {n : Nat}, xs.map f = List.replicate n e → ∀ x ∈ xs, f x = e
  | x :: xs, 0, h, _, _ => by simp at h
  | x :: xs, n + 1, h, y, m => by
    rw [List.map_cons, List.replicate_succ] at h
    obtain ⟨h1, h2⟩ := List.cons.inj h
    rcases List.mem_cons.mp m with rfl | m
    · exact h1
    · exact rep_all h2 y m
theorem map_at {α β : Type} {f : α → β} {xs : List α} {ys : List β} (h : xs.map f = ys) (i : Nat) {x : α} {y : β} (e1 : xs[i]? = some x) (e2 : ys[i]? = some y) : f x = y := by
  rw [← h, List.getElem?_map, e1] at e2
  exact Option.some.inj e2
theorem kit_paired {K : PySem.W.Frag} {C : Addr} : ∀ {us : List Value} {bs : List Bool}, us.map (PySem.W.kitOne K (.ref C)) = bs.map some → Paired (fun u b => PySem.W.kitOne K (.ref C) u = some b) us bs
  | [], [], _ => .nil
  | u :: us, b :: bs, h => by
    rw [List.map_cons, List.map_cons] at h
    obtain ⟨h1, h2⟩ := List.cons.inj h
    exact .cons h1 (kit_paired h2)
  | [], _ :: _, h => by cases h
  | _ :: _, [], h => by cases h
/-- what the program's top leaves, as far as the law asks it -/
structure Facts (K : PySem.W.Frag) : Prop where
  f_figures_of : ∃ fd, Fun K "figures_of" "figures_of" sFig 621 fd
  f_is_number : ∃ fd, Fun K "is_number" "is_number" sIsNumber 633 fd
  f_is_at_least : ∃ fd, Fun K "is_at_least" "is_at_least" sIsAtLeast 640 fd
  f_is_name : ∃ fd, Fun K "is_name" "is_name" sIsName 645 fd
  f_plain_name : ∃ fd, Fun K "plain_name" "plain_name" sPlainName 652 fd
  f_is_pair : ∃ fd, Fun K "is_pair" "is_pair" sIsPair 659 fd
  f_wrong_pair_at : ∃ fd, Fun K "wrong_pair_at" "wrong_pair_at" sWrong 666 fd
  f_by_name : ∃ fd, Fun K "by_name" "by_name" sByName 678 fd
  f_plain_pairs : ∃ fd, Fun K "plain_pairs" "plain_pairs" sPlainPairs 683 fd
  f__law_source : ∃ fd, Fun K "_law_source" "_law_source" sSource 923 fd
  f__law_pull : ∃ fd, Fun K "_law_pull" "_law_pull" sPull 930 fd
  f__law_values : ∃ fd, Fun K "_law_values" "_law_values" s_law_values 937 fd
  f__law_indexes : ∃ fd, Fun K "_law_indexes" "_law_indexes" s_law_indexes 944 fd
  f__law_others : ∃ fd, Fun K "_law_others" "_law_others" sOthers 949 fd
  f__law_tops : ∃ fd, Fun K "_law_tops" "_law_tops" s_law_tops 956 fd
  f__law_classes : ∃ fd, Fun K "_law_classes" "_law_classes" sClasses 963 fd
  f__law_kin : ∃ fd, Fun K "_law_kin" "_law_kin" sKin 970 fd
  f__law_right : ∃ fd, Fun K "_law_right" "_law_right" sRight 975 fd
  f_law : ∃ fd, Fun K "law" "law" sLaw 980 fd
  f_init_NotALoad : ∃ fd, Fun K "__init__" "NotALoad.__init__" sI4 67 fd
  f_init_NotAHandler : ∃ fd, Fun K "__init__" "NotAHandler.__init__" sI5 86 fd
  f_init_NotAWeb : ∃ fd, Fun K "__init__" "NotAWeb.__init__" sI6 105 fd
  f_init_InvalidName : ∃ fd, Fun K "__init__" "InvalidName.__init__" sI7 124 fd
  f_init_InvalidText : ∃ fd, Fun K "__init__" "InvalidText.__init__" sI8 143 fd
  f_init_InvalidNumber : ∃ fd, Fun K "__init__" "InvalidNumber.__init__" sI9 162 fd
  f_init_InvalidRest : ∃ fd, Fun K "__init__" "InvalidRest.__init__" sI10 181 fd
  f_init_InvalidChoice : ∃ fd, Fun K "__init__" "InvalidChoice.__init__" sI11 200 fd
  f_init_InvalidLine : ∃ fd, Fun K "__init__" "InvalidLine.__init__" sI12 219 fd
  f_init_UnknownKind : ∃ fd, Fun K "__init__" "UnknownKind.__init__" sI13 238 fd
  f_init_InvalidPairs : ∃ fd, Fun K "__init__" "InvalidPairs.__init__" sI14 257 fd
  f_init_InvalidKinds : ∃ fd, Fun K "__init__" "InvalidKinds.__init__" sI15 276 fd
  f_init_InvalidRows : ∃ fd, Fun K "__init__" "InvalidRows.__init__" sI16 295 fd
  f_init_InvalidNames : ∃ fd, Fun K "__init__" "InvalidNames.__init__" sI17 314 fd
  f_init_InvalidHandlers : ∃ fd, Fun K "__init__" "InvalidHandlers.__init__" sI18 333 fd
  f_init_InvalidEntries : ∃ fd, Fun K "__init__" "InvalidEntries.__init__" sI19 352 fd
  f_init_InvalidIndexes : ∃ fd, Fun K "__init__" "InvalidIndexes.__init__" sI20 371 fd
  f_init_InvalidTerms : ∃ fd, Fun K "__init__" "InvalidTerms.__init__" sI21 390 fd
  f_init_InvalidDeeds : ∃ fd, Fun K "__init__" "InvalidDeeds.__init__" sI22 409 fd
  f_init_Lacking : ∃ fd, Fun K "__init__" "Lacking.__init__" sI23 428 fd
  f_init_Heeds : ∃ fd, Fun K "__init__" "Heeds.__init__" sI24 447 fd
  f_init_NotLasting : ∃ fd, Fun K "__init__" "NotLasting.__init__" sI25 466 fd
  f_init_Meddling : ∃ fd, Fun K "__init__" "Meddling.__init__" sI26 485 fd
  f_init_Refused : ∃ fd, Fun K "__init__" "Refused.__init__" sI27 504 fd
  f_init_TooManyKinds : ∃ fd, Fun K "__init__" "TooManyKinds.__init__" sI32 571 fd
  f_init_TooManyStates : ∃ fd, Fun K "__init__" "TooManyStates.__init__" sI33 590 fd
  f_init_TooManyRows : ∃ fd, Fun K "__init__" "TooManyRows.__init__" sI34 609 fd
  f_load_init : ∃ fd, Fun K "__init__" "Load.__init__" sLoadInit 750 fd
  f_load_repr : ∃ fd, Fun K "__repr__" "Load.__repr__" sRepr 909 fd
  f_load_size : ∃ fd, Fun K "size" "Load.size" sSize 789 fd
  ns : ([(PySem.Str.ofString "ValueFault"), (PySem.Str.ofString "StateFault"), (PySem.Str.ofString "LimitFault"), (PySem.Str.ofString "NotALoad"), (PySem.Str.ofString "NotAHandler"), (PySem.Str.ofString "NotAWeb"), (PySem.Str.ofString "InvalidName"), (PySem.Str.ofString "InvalidText"), (PySem.Str.ofString "InvalidNumber"), (PySem.Str.ofString "InvalidRest"), (PySem.Str.ofString "InvalidChoice"), (PySem.Str.ofString "InvalidLine"), (PySem.Str.ofString "UnknownKind"), (PySem.Str.ofString "InvalidPairs"), (PySem.Str.ofString "InvalidKinds"), (PySem.Str.ofString "InvalidRows"), (PySem.Str.ofString "InvalidNames"), (PySem.Str.ofString "InvalidHandlers"), (PySem.Str.ofString "InvalidEntries"), (PySem.Str.ofString "InvalidIndexes"), (PySem.Str.ofString "InvalidTerms"), (PySem.Str.ofString "InvalidDeeds"), (PySem.Str.ofString "Lacking"), (PySem.Str.ofString "Heeds"), (PySem.Str.ofString "NotLasting"), (PySem.Str.ofString "Meddling"), (PySem.Str.ofString "Refused"), (PySem.Str.ofString "Endless"), (PySem.Str.ofString "NotComparable"), (PySem.Str.ofString "NothingToUndo"), (PySem.Str.ofString "Busy"), (PySem.Str.ofString "TooManyKinds"), (PySem.Str.ofString "TooManyStates"), (PySem.Str.ofString "TooManyRows"), (PySem.Str.ofString "figures_of"), (PySem.Str.ofString "is_number"), (PySem.Str.ofString "is_at_least"), (PySem.Str.ofString "is_name"), (PySem.Str.ofString "plain_name"), (PySem.Str.ofString "is_pair"), (PySem.Str.ofString "wrong_pair_at"), (PySem.Str.ofString "by_name"), (PySem.Str.ofString "plain_pairs"), (PySem.Str.ofString "Load"), (PySem.Str.ofString "_law_source"), (PySem.Str.ofString "_law_pull"), (PySem.Str.ofString "_law_values"), (PySem.Str.ofString "_law_indexes"), (PySem.Str.ofString "_law_others"), (PySem.Str.ofString "_law_tops"), (PySem.Str.ofString "_law_classes"), (PySem.Str.ofString "_law_kin"), (PySem.Str.ofString "_law_right"), (PySem.Str.ofString "law")] : List Str).map (fun x => PySem.W.nsIn K mainGlobals x) = [some (some (Value.ref 24)), some (some (Value.ref 37)), some (some (Value.ref 50)), some (some (Value.ref 70)), some (some (Value.ref 89)), some (some (Value.ref 108)), some (some (Value.ref 127)), some (some (Value.ref 146)), some (some (Value.ref 165)), some (some (Value.ref 184)), some (some (Value.ref 203)), some (some (Value.ref 222)), some (some (Value.ref 241)), some (some (Value.ref 260)), some (some (Value.ref 279)), some (some (Value.ref 298)), some (some (Value.ref 317)), some (some (Value.ref 336)), some (some (Value.ref 355)), some (some (Value.ref 374)), some (some (Value.ref 393)), some (some (Value.ref 412)), some (some (Value.ref 431)), some (some (Value.ref 450)), some (some (Value.ref 469)), some (some (Value.ref 488)), some (some (Value.ref 507)), some (some (Value.ref 519)), some (some (Value.ref 531)), some (some (Value.ref 543)), some (some (Value.ref 555)), some (some (Value.ref 574)), some (some (Value.ref 593)), some (some (Value.ref 612)), some (some (Value.ref 621)), some (some (Value.ref 633)), some (some (Value.ref 640)), some (some (Value.ref 645)), some (some (Value.ref 652)), some (some (Value.ref 659)), some (some (Value.ref 666)), some (some (Value.ref 678)), some (some (Value.ref 683)), some (some (Value.ref 912)), some (some (Value.ref 923)), some (some (Value.ref 930)), some (some (Value.ref 937)), some (some (Value.ref 944)), some (some (Value.ref 949)), some (some (Value.ref 956)), some (some (Value.ref 963)), some (some (Value.ref 970)), some (some (Value.ref 975)), some (some (Value.ref 980))]
  nb : ([(PySem.Str.ofString "isinstance"), (PySem.Str.ofString "ValueError"), (PySem.Str.ofString "LookupError"), (PySem.Str.ofString "ArithmeticError"), (PySem.Str.ofString "repr"), (PySem.Str.ofString "len"), (PySem.Str.ofString "all"), (PySem.Str.ofString "int"), (PySem.Str.ofString "abs"), (PySem.Str.ofString "max"), (PySem.Str.ofString "min"), (PySem.Str.ofString "range"), (PySem.Str.ofString "bool"), (PySem.Str.ofString "str"), (PySem.Str.ofString "tuple"), (PySem.Str.ofString "sorted"), (PySem.Str.ofString "enumerate"), (PySem.Str.ofString "dict"), (PySem.Str.ofString "sum")] : List Str).map (fun x => PySem.W.nsIn K mainGlobals x) = List.replicate 19 (some none)
  oxV : ([70, 89, 108, 127, 146, 165, 184, 203, 222, 241, 260, 279, 298, 317, 336, 355, 374, 393, 412] : List Addr).map (oxT K "ValueError.__new__" (bmOf "ValueError")) = List.replicate 19 oxE
  oxL : ([431, 450, 469, 488, 507, 519, 531, 543, 555] : List Addr).map (oxT K "LookupError.__new__" (bmOf "LookupError")) = List.replicate 9 oxE
  oxA : ([574, 593, 612] : List Addr).map (oxT K "ArithmeticError.__new__" (bmOf "ArithmeticError")) = List.replicate 3 oxE
  fi : ([70, 89, 108, 127, 146, 165, 184, 203, 222, 241, 260, 279, 298, 317, 336, 355, 374, 393, 412, 431, 450, 469, 488, 507, 574, 593, 612] : List Addr).map (fun C => PySem.W.findIn K (.ref C) "__init__") = [some (some (Value.ref 67)), some (some (Value.ref 86)), some (some (Value.ref 105)), some (some (Value.ref 124)), some (some (Value.ref 143)), some (some (Value.ref 162)), some (some (Value.ref 181)), some (some (Value.ref 200)), some (some (Value.ref 219)), some (some (Value.ref 238)), some (some (Value.ref 257)), some (some (Value.ref 276)), some (some (Value.ref 295)), some (some (Value.ref 314)), some (some (Value.ref 333)), some (some (Value.ref 352)), some (some (Value.ref 371)), some (some (Value.ref 390)), some (some (Value.ref 409)), some (some (Value.ref 428)), some (some (Value.ref 447)), some (some (Value.ref 466)), some (some (Value.ref 485)), some (some (Value.ref 504)), some (some (Value.ref 571)), some (some (Value.ref 590)), some (some (Value.ref 609))]
  ty : ([67, 86, 105, 124, 143, 162, 181, 200, 219, 238, 257, 276, 295, 314, 333, 352, 371, 390, 409, 428, 447, 466, 485, 504, 571, 590, 609] : List Addr).map (fun C => PySem.W.typeIn K (.ref C)) = List.replicate 27 (some (Value.type "function"))
  no : ([(70, (PySem.Str.ofString "value")), (89, (PySem.Str.ofString "value")), (108, (PySem.Str.ofString "value")), (127, (PySem.Str.ofString "value")), (146, (PySem.Str.ofString "value")), (165, (PySem.Str.ofString "value")), (184, (PySem.Str.ofString "value")), (203, (PySem.Str.ofString "value")), (222, (PySem.Str.ofString "value")), (241, (PySem.Str.ofString "value")), (260, (PySem.Str.ofString "index")), (279, (PySem.Str.ofString "index")), (298, (PySem.Str.ofString "index")), (317, (PySem.Str.ofString "index")), (336, (PySem.Str.ofString "index")), (355, (PySem.Str.ofString "index")), (374, (PySem.Str.ofString "index")), (393, (PySem.Str.ofString "index")), (412, (PySem.Str.ofString "index")), (431, (PySem.Str.ofString "name")), (469, (PySem.Str.ofString "rest")), (488, (PySem.Str.ofString "load")), (507, (PySem.Str.ofString "load")), (574, (PySem.Str.ofString "limit")), (593, (PySem.Str.ofString "limit")), (612, (PySem.Str.ofString "limit")), (450, (PySem.Str.ofString "state")), (450, (PySem.Str.ofString "one")), (450, (PySem.Str.ofString "other")), (912, (PySem.Str.ofString "_pairs")), (912, (PySem.Str.ofString "_counts"))] : List (Addr × Str)).map (fun p => PySem.W.findIn K (.ref p.1) p.2) = List.replicate 31 (some none)
  e0 : ([519, 531, 543, 555] : List Addr).map (fun C => PySem.W.excIn K C (bmOf "LookupError") "LookupError.__new__") = List.replicate 4 true
  ld : (PySem.W.makesIn K 912, PySem.W.plainGet K 912 Str.empty, PySem.W.hasDictIn K 912, PySem.W.plainOver K 912, PySem.W.keepIn K (.ref 912), PySem.W.isFn K (.ref 750)) = (true, true, true, true, true, true)
  lf : (PySem.W.findIn K (.ref 912) "__setattr__", PySem.W.findIn K (.ref 912) "__init__", PySem.W.findIn K (.ref 912) "__repr__", PySem.W.findIn K (.ref 912) "size", PySem.W.typeIn K (.ref 909)) = (some (some (Value.builtin "object.__setattr__")), some (some (Value.ref 750)), some (some (Value.ref 909)), some (some (Value.ref 790)), some (Value.type "function"))
  lp : PySem.W.specialIn K (.ref 790) "__get__" = some (some (.builtin "property.__get__")) ∧ PySem.W.takesIn K (.ref 790) = some true
  lq : (PySem.W.recIn K 790 "property").map (·.head?) = some (some (Value.ref 789))
  og : PySem.W.specialIn K (.builtin "object.__class__") "__get__" = some (some (.builtin "getset_descriptor.__get__")) ∧ PySem.W.takesIn K (.builtin "object.__class__") = some true
  kV : ([70, 89, 108, 127, 146, 165, 184, 203, 222, 241, 260, 279, 298, 317, 336, 355, 374, 393, 412] : List Addr).map (fun C => kusN.map (PySem.W.kitOne K (.ref C))) = List.replicate 19 [some true, some false, some false, some true, some false, some false]
  kL : ([431, 450, 469, 488, 507, 519, 531, 543, 555] : List Addr).map (fun C => kusN.map (PySem.W.kitOne K (.ref C))) = List.replicate 9 [some false, some true, some false, some false, some true, some false]
  kA : ([574, 593, 612] : List Addr).map (fun C => kusN.map (PySem.W.kitOne K (.ref C))) = List.replicate 3 [some false, some false, some true, some false, some false, some true]
  c0 : ([70, 89, 108, 127, 146, 165, 184, 203] : List Addr).map (fun C => cusN.map (PySem.W.kitOne K (.ref C))) = [[some true, some false, some false, some false, some false, some false, some false, some false, some false, some false, some false, some false, some false, some false, some false, some false, some false, some false, some false, some false, some false, some false, some false, some false, some false, some false, some false, some false, some false, some false, some false], [some false, some true, some false, some false, some false, some false, some false, some false, some false, some false, some false, some false, some false, some false, some false, some false, some false, some false, some false, some false, some false, some false, some false, some false, some false, some false, some false, some false, some false, some false, some false], [some false, some false, some true, some false, some false, some false, some false, some false, some false, some false, some false, some false, some false, some false, some false, some false, some false, some false, some false, some false, some false, some false, some false, some false, some false, some false, some false, some false, some false, some false, some false], [some false, some false, some false, some true, some false, some false, some false, some false, some false, some false, some false, some false, some false, some false, some false, some false, some false, some false, some false, some false, some false, some false, some false, some false, some false, some false, some false, some false, some false, some false, some false], [some false, some false, some false, some false, some true, some false, some false, some false, some false, some false, some false, some false, some false, some false, some false, some false, some false, some false, some false, some false, some false, some false, some false, some false, some false, some false, some false, some false, some false, some false, some false], [some false, some false, some false, some false, some false, some true, some false, some false, some false, some false, some false, some false, some false, some false, some false, some false, some false, some false, some false, some false, some false, some false, some false, some false, some false, some false, some false, some false, some false, some false, some false], [some false, some false, some false, some false, some false, some false, some true, some false, some false, some false, some false, some false, some false, some false, some false, some false, some false, some false, some false, some false, some false, some false, some false, some false, some false, some false, some false, some false, some false, some false, some false], [some false, some false, some false, some false, some false, some false, some false, some true, some false, some false, some false, some false, some false, some false, some false, some false, some false, some false, some false, some false, some false, some false, some false, some false, some false, some false, some false, some false, some false, some false, some false]]
  c8 : ([222, 241, 260, 279, 298, 317, 336, 355] : List Addr).map (fun C => cusN.map (PySem.W.kitOne K (.ref C))) = [[some false, some false, some false, some false, some false, some false, some false, some false, some true, some false, some false, some false, some false, some false, some false, some false, some false, some false, some false, some false, some false, some false, some false, some false, some false, some false, some false, some false, some false, some false, some false], [some false, some false, some false, some false, some false, some false, some false, some false, some false, some true, some false, some false, some false, some false, some false, some false, some false, some false, some false, some false, some false, some false, some false, some false, some false, some false, some false, some false, some false, some false, some false], [some false, some false, some false, some false, some false, some false, some false, some false, some false, some false, some true, some false, some false, some false, some false, some false, some false, some false, some false, some false, some false, some false, some false, some false, some false, some false, some false, some false, some false, some false, some false], [some false, some false, some false, some false, some false, some false, some false, some false, some false, some false, some false, some true, some false, some false, some false, some false, some false, some false, some false, some false, some false, some false, some false, some false, some false, some false, some false, some false, some false, some false, some false], [some false, some false, some false, some false, some false, some false, some false, some false, some false, some false, some false, some false, some true, some false, some false, some false, some false, some false, some false, some false, some false, some false, some false, some false, some false, some false, some false, some false, some false, some false, some false], [some false, some false, some false, some false, some false, some false, some false, some false, some false, some false, some false, some false, some false, some true, some false, some false, some false, some false, some false, some false, some false, some false, some false, some false, some false, some false, some false, some false, some false, some false, some false], [some false, some false, some false, some false, some false, some false, some false, some false, some false, some false, some false, some false, some false, some false, some true, some false, some false, some false, some false, some false, some false, some false, some false, some false, some false, some false, some false, some false, some false, some false, some false], [some false, some false, some false, some false, some false, some false, some false, some false, some false, some false, some false, some false, some false, some false, some false, some true, some false, some false, some false, some false, some false, some false, some false, some false, some false, some false, some false, some false, some false, some false, some false]]
  c16 : ([374, 393, 412, 431, 450, 469, 488, 507] : List Addr).map (fun C => cusN.map (PySem.W.kitOne K (.ref C))) = [[some false, some false, some false, some false, some false, some false, some false, some false, some false, some false, some false, some false, some false, some false, some false, some false, some true, some false, some false, some false, some false, some false, some false, some false, some false, some false, some false, some false, some false, some false, some false], [some false, some false, some false, some false, some false, some false, some false, some false, some false, some false, some false, some false, some false, some false, some false, some false, some false, some true, some false, some false, some false, some false, some false, some false, some false, some false, some false, some false, some false, some false, some false], [some false, some false, some false, some false, some false, some false, some false, some false, some false, some false, some false, some false, some false, some false, some false, some false, some false, some false, some true, some false, some false, some false, some false, some false, some false, some false, some false, some false, some false, some false, some false], [some false, some false, some false, some false, some false, some false, some false, some false, some false, some false, some false, some false, some false, some false, some false, some false, some false, some false, some false, some true, some false, some false, some false, some false, some false, some false, some false, some false, some false, some false, some false], [some false, some false, some false, some false, some false, some false, some false, some false, some false, some false, some false, some false, some false, some false, some false, some false, some false, some false, some false, some false, some true, some false, some false, some false, some false, some false, some false, some false, some false, some false, some false], [some false, some false, some false, some false, some false, some false, some false, some false, some false, some false, some false, some false, some false, some false, some false, some false, some false, some false, some false, some false, some false, some true, some false, some false, some false, some false, some false, some false, some false, some false, some false], [some false, some false, some false, some false, some false, some false, some false, some false, some false, some false, some false, some false, some false, some false, some false, some false, some false, some false, some false, some false, some false, some false, some true, some false, some false, some false, some false, some false, some false, some false, some false], [some false, some false, some false, some false, some false, some false, some false, some false, some false, some false, some false, some false, some false, some false, some false, some false, some false, some false, some false, some false, some false, some false, some false, some true, some false, some false, some false, some false, some false, some false, some false]]
  c24 : ([519, 531, 543, 555, 574, 593, 612] : List Addr).map (fun C => cusN.map (PySem.W.kitOne K (.ref C))) = [[some false, some false, some false, some false, some false, some false, some false, some false, some false, some false, some false, some false, some false, some false, some false, some false, some false, some false, some false, some false, some false, some false, some false, some false, some true, some false, some false, some false, some false, some false, some false], [some false, some false, some false, some false, some false, some false, some false, some false, some false, some false, some false, some false, some false, some false, some false, some false, some false, some false, some false, some false, some false, some false, some false, some false, some false, some true, some false, some false, some false, some false, some false], [some false, some false, some false, some false, some false, some false, some false, some false, some false, some false, some false, some false, some false, some false, some false, some false, some false, some false, some false, some false, some false, some false, some false, some false, some false, some false, some true, some false, some false, some false, some false], [some false, some false, some false, some false, some false, some false, some false, some false, some false, some false, some false, some false, some false, some false, some false, some false, some false, some false, some false, some false, some false, some false, some false, some false, some false, some false, some false, some true, some false, some false, some false], [some false, some false, some false, some false, some false, some false, some false, some false, some false, some false, some false, some false, some false, some false, some false, some false, some false, some false, some false, some false, some false, some false, some false, some false, some false, some false, some false, some false, some true, some false, some false], [some false, some false, some false, some false, some false, some false, some false, some false, some false, some false, some false, some false, some false, some false, some false, some false, some false, some false, some false, some false, some false, some false, some false, some false, some false, some false, some false, some false, some false, some true, some false], [some false, some false, some false, some false, some false, some false, some false, some false, some false, some false, some false, some false, some false, some false, some false, some false, some false, some false, some false, some false, some false, some false, some false, some false, some false, some false, some false, some false, some false, some false, some true]]
  mKINDS : ∃ t, PySem.W.nsIn K mainGlobals "MOST_KINDS" = some (some (.int 8 t))
  mHANDLERS : ∃ t, PySem.W.nsIn K mainGlobals "MOST_HANDLERS" = some (some (.int 5 t))
  mSTATES : ∃ t, PySem.W.nsIn K mainGlobals "MOST_STATES" = some (some (.int 600 t))
  mTERMS : ∃ t, PySem.W.nsIn K mainGlobals "MOST_TERMS" = some (some (.int 6 t))
  mROWS : ∃ t, PySem.W.nsIn K mainGlobals "MOST_ROWS" = some (some (.int 20000 t))
  mSIGNSN : ∃ t, PySem.W.nsIn K mainGlobals "MOST_SIGNS" = some (some (.int 8 t))
  mLETTERS : ∃ t, PySem.W.nsIn K mainGlobals "LETTERS" = some (some (.str "abcdefghijklmnopqrstuvwxyz" t))
  mSIGNS : ∃ t, PySem.W.nsIn K mainGlobals "SIGNS" = some (some (.str "abcdefghijklmnopqrstuvwxyz0123456789" t))
theorem FnR.mono' {P : Program} {w : World} {K : PySem.W.Frag} {mg : Str → Option Value} {base : Heap} {CX : CXT} {j k : Nat} {f : Addr} {sp : Sp} (F : FnR P w K mg base CX j f sp) (h : j ≤ k) : FnR P w K mg base CX k f sp :=
  fun A outer s H us vs Q E hr e0 r q => F A outer s H us vs Q E (hr.mono h) e0 r q
theorem shownLoad {P : Program} {w : World} {K : PySem.W.Frag} {mg : Str → Option Value} {base : Heap} {C f : Addr} {fd : FuncData} (hs : PySem.W.findIn K (.ref C) "__repr__" = some (some (.ref f))) (hf : PySem.W.typeIn K (.ref f) = some (.type "function"))
    (F : FnOk P w K mg base CX0 3 f fd ["self"] (spRepr C)) (hb : Binds K fd ["self"] []) (H : Hp) (a : Addr) (ps : List (Str × Int)) (la : LoadAt C H a ps) (hl : ps.length ≤ 1000) (z0 : 0 ≤ sumP ps) (z1 : sumP ps < 10 ^ 64) (sm : (loadText ps).length ≤ 3000) : Shown P w K mg base H [] (.ref a) (loadText ps) := by
  refine ⟨sm, (fun _ z => nomatch z), fun X e1 e2 e3 e4 e5 => ?_⟩
  subst e1 e2 e3 e4 e5
  obtain ⟨dx, t, d, ts, ea, _⟩ := id la
  exact (RV.inst ea hs hf (F.mono (by decide : 3 ≤ 8)) hb fun H1 s1 Q E q => ⟨a, ps, rfl, la.same s1, hl, z0, z1, q⟩).mono (Same.refl H) (fun b hb => hb) (Nat.zero_le 2)
theorem main {P : Program} {w : World} {K : PySem.W.Frag} {h : Heap} {mg : Str → Option Value} {fa : Addr} (X : K.In h) (G : h.Ns mainGlobals mg) (hfa : mg "law" = some (.ref fa)) (Z : Facts K) :
    ∃ fd : FuncData, (∀ (s : Shared) (u : Value), BindsTo s fd ⟨[u], []⟩ [("_law_cells", u)]) ∧ ∀ base : Heap, K.In base → base.Ns mainGlobals mg → FnG P w K mg base CX0 51 fa fd ["_law_cells"] (spLaw K) := by
  have g_ValueFault : mg "ValueFault" = some (.ref 24) := PySem.W.mg_of X G (map_at Z.ns 0 rfl rfl)
  have g_StateFault : mg "StateFault" = some (.ref 37) := PySem.W.mg_of X G (map_at Z.ns 1 rfl rfl)
  have g_LimitFault : mg "LimitFault" = some (.ref 50) := PySem.W.mg_of X G (map_at Z.ns 2 rfl rfl)
  have g_NotALoad : mg "NotALoad" = some (.ref 70) := PySem.W.mg_of X G (map_at Z.ns 3 rfl rfl)
  have g_NotAHandler : mg "NotAHandler" = some (.ref 89) := PySem.W.mg_of X G (map_at Z.ns 4 rfl rfl)
  have g_NotAWeb : mg "NotAWeb" = some (.ref 108) := PySem.W.mg_of X G (map_at Z.ns 5 rfl rfl)
  have g_InvalidName : mg "InvalidName" = some (.ref 127) := PySem.W.mg_of X G (map_at Z.ns 6 rfl rfl)
  have g_InvalidText : mg "InvalidText" = some (.ref 146) := PySem.W.mg_of X G (map_at Z.ns 7 rfl rfl)
  have g_InvalidNumber : mg "InvalidNumber" = some (.ref 165) := PySem.W.mg_of X G (map_at Z.ns 8 rfl rfl)
  have g_InvalidRest : mg "InvalidRest" = some (.ref 184) := PySem.W.mg_of X G (map_at Z.ns 9 rfl rfl)
  have g_InvalidChoice : mg "InvalidChoice" = some (.ref 203) := PySem.W.mg_of X G (map_at Z.ns 10 rfl rfl)
  have g_InvalidLine : mg "InvalidLine" = some (.ref 222) := PySem.W.mg_of X G (map_at Z.ns 11 rfl rfl)
  have g_UnknownKind : mg "UnknownKind" = some (.ref 241) := PySem.W.mg_of X G (map_at Z.ns 12 rfl rfl)
  have g_InvalidPairs : mg "InvalidPairs" = some (.ref 260) := PySem.W.mg_of X G (map_at Z.ns 13 rfl rfl)
  have g_InvalidKinds : mg "InvalidKinds" = some (.ref 279) := PySem.W.mg_of X G (map_at Z.ns 14 rfl rfl)
  have g_InvalidRows : mg "InvalidRows" = some (.ref 298) := PySem.W.mg_of X G (map_at Z.ns 15 rfl rfl)
  have g_InvalidNames : mg "InvalidNames" = some (.ref 317) := PySem.W.mg_of X G (map_at Z.ns 16 rfl rfl)
  have g_InvalidHandlers : mg "InvalidHandlers" = some (.ref 336) := PySem.W.mg_of X G (map_at Z.ns 17 rfl rfl)
  have g_InvalidEntries : mg "InvalidEntries" = some (.ref 355) := PySem.W.mg_of X G (map_at Z.ns 18 rfl rfl)
  have g_InvalidIndexes : mg "InvalidIndexes" = some (.ref 374) := PySem.W.mg_of X G (map_at Z.ns 19 rfl rfl)
  have g_InvalidTerms : mg "InvalidTerms" = some (.ref 393) := PySem.W.mg_of X G (map_at Z.ns 20 rfl rfl)
  have g_InvalidDeeds : mg "InvalidDeeds" = some (.ref 412) := PySem.W.mg_of X G (map_at Z.ns 21 rfl rfl)
  have g_Lacking : mg "Lacking" = some (.ref 431) := PySem.W.mg_of X G (map_at Z.ns 22 rfl rfl)
  have g_Heeds : mg "Heeds" = some (.ref 450) := PySem.W.mg_of X G (map_at Z.ns 23 rfl rfl)
  have g_NotLasting : mg "NotLasting" = some (.ref 469) := PySem.W.mg_of X G (map_at Z.ns 24 rfl rfl)
  have g_Meddling : mg "Meddling" = some (.ref 488) := PySem.W.mg_of X G (map_at Z.ns 25 rfl rfl)
  have g_Refused : mg "Refused" = some (.ref 507) := PySem.W.mg_of X G (map_at Z.ns 26 rfl rfl)
  have g_Endless : mg "Endless" = some (.ref 519) := PySem.W.mg_of X G (map_at Z.ns 27 rfl rfl)
  have g_NotComparable : mg "NotComparable" = some (.ref 531) := PySem.W.mg_of X G (map_at Z.ns 28 rfl rfl)
  have g_NothingToUndo : mg "NothingToUndo" = some (.ref 543) := PySem.W.mg_of X G (map_at Z.ns 29 rfl rfl)
  have g_Busy : mg "Busy" = some (.ref 555) := PySem.W.mg_of X G (map_at Z.ns 30 rfl rfl)
  have g_TooManyKinds : mg "TooManyKinds" = some (.ref 574) := PySem.W.mg_of X G (map_at Z.ns 31 rfl rfl)
  have g_TooManyStates : mg "TooManyStates" = some (.ref 593) := PySem.W.mg_of X G (map_at Z.ns 32 rfl rfl)
  have g_TooManyRows : mg "TooManyRows" = some (.ref 612) := PySem.W.mg_of X G (map_at Z.ns 33 rfl rfl)
  have g_figures_of : mg "figures_of" = some (.ref 621) := PySem.W.mg_of X G (map_at Z.ns 34 rfl rfl)
  have g_is_number : mg "is_number" = some (.ref 633) := PySem.W.mg_of X G (map_at Z.ns 35 rfl rfl)
  have g_is_at_least : mg "is_at_least" = some (.ref 640) := PySem.W.mg_of X G (map_at Z.ns 36 rfl rfl)
  have g_is_name : mg "is_name" = some (.ref 645) := PySem.W.mg_of X G (map_at Z.ns 37 rfl rfl)
  have g_plain_name : mg "plain_name" = some (.ref 652) := PySem.W.mg_of X G (map_at Z.ns 38 rfl rfl)
  have g_is_pair : mg "is_pair" = some (.ref 659) := PySem.W.mg_of X G (map_at Z.ns 39 rfl rfl)
  have g_wrong_pair_at : mg "wrong_pair_at" = some (.ref 666) := PySem.W.mg_of X G (map_at Z.ns 40 rfl rfl)
  have g_by_name : mg "by_name" = some (.ref 678) := PySem.W.mg_of X G (map_at Z.ns 41 rfl rfl)
  have g_plain_pairs : mg "plain_pairs" = some (.ref 683) := PySem.W.mg_of X G (map_at Z.ns 42 rfl rfl)
  have g_Load : mg "Load" = some (.ref 912) := PySem.W.mg_of X G (map_at Z.ns 43 rfl rfl)
  have g__law_source : mg "_law_source" = some (.ref 923) := PySem.W.mg_of X G (map_at Z.ns 44 rfl rfl)
  have g__law_pull : mg "_law_pull" = some (.ref 930) := PySem.W.mg_of X G (map_at Z.ns 45 rfl rfl)
  have g__law_values : mg "_law_values" = some (.ref 937) := PySem.W.mg_of X G (map_at Z.ns 46 rfl rfl)
  have g__law_indexes : mg "_law_indexes" = some (.ref 944) := PySem.W.mg_of X G (map_at Z.ns 47 rfl rfl)
  have g__law_others : mg "_law_others" = some (.ref 949) := PySem.W.mg_of X G (map_at Z.ns 48 rfl rfl)
  have g__law_tops : mg "_law_tops" = some (.ref 956) := PySem.W.mg_of X G (map_at Z.ns 49 rfl rfl)
  have g__law_classes : mg "_law_classes" = some (.ref 963) := PySem.W.mg_of X G (map_at Z.ns 50 rfl rfl)
  have g__law_kin : mg "_law_kin" = some (.ref 970) := PySem.W.mg_of X G (map_at Z.ns 51 rfl rfl)
  have g__law_right : mg "_law_right" = some (.ref 975) := PySem.W.mg_of X G (map_at Z.ns 52 rfl rfl)
  have g_law : mg "law" = some (.ref 980) := PySem.W.mg_of X G (map_at Z.ns 53 rfl rfl)
  have b_isinstance : mg "isinstance" = none := PySem.W.mg_none_of X G (rep_all Z.nb "isinstance" (by simp))
  have b_ValueError : mg "ValueError" = none := PySem.W.mg_none_of X G (rep_all Z.nb "ValueError" (by simp))
  have b_LookupError : mg "LookupError" = none := PySem.W.mg_none_of X G (rep_all Z.nb "LookupError" (by simp))
  have b_ArithmeticError : mg "ArithmeticError" = none := PySem.W.mg_none_of X G (rep_all Z.nb "ArithmeticError" (by simp))
  have b_repr : mg "repr" = none := PySem.W.mg_none_of X G (rep_all Z.nb "repr" (by simp))
  have b_len : mg "len" = none := PySem.W.mg_none_of X G (rep_all Z.nb "len" (by simp))
  have b_all : mg "all" = none := PySem.W.mg_none_of X G (rep_all Z.nb "all" (by simp))
  have b_int : mg "int" = none := PySem.W.mg_none_of X G (rep_all Z.nb "int" (by simp))
  have b_abs : mg "abs" = none := PySem.W.mg_none_of X G (rep_all Z.nb "abs" (by simp))
  have b_max : mg "max" = none := PySem.W.mg_none_of X G (rep_all Z.nb "max" (by simp))
  have b_min : mg "min" = none := PySem.W.mg_none_of X G (rep_all Z.nb "min" (by simp))
  have b_range : mg "range" = none := PySem.W.mg_none_of X G (rep_all Z.nb "range" (by simp))
  have b_bool : mg "bool" = none := PySem.W.mg_none_of X G (rep_all Z.nb "bool" (by simp))
  have b_str : mg "str" = none := PySem.W.mg_none_of X G (rep_all Z.nb "str" (by simp))
  have b_tuple : mg "tuple" = none := PySem.W.mg_none_of X G (rep_all Z.nb "tuple" (by simp))
  have b_sorted : mg "sorted" = none := PySem.W.mg_none_of X G (rep_all Z.nb "sorted" (by simp))
  have b_enumerate : mg "enumerate" = none := PySem.W.mg_none_of X G (rep_all Z.nb "enumerate" (by simp))
  have b_dict : mg "dict" = none := PySem.W.mg_none_of X G (rep_all Z.nb "dict" (by simp))
  have b_sum : mg "sum" = none := PySem.W.mg_none_of X G (rep_all Z.nb "sum" (by simp))
  have mKINDS : ∃ t, mg "MOST_KINDS" = some (.int 8 t) := let ⟨t, e⟩ := Z.mKINDS; ⟨t, PySem.W.mg_of X G e⟩
  have mHANDLERS : ∃ t, mg "MOST_HANDLERS" = some (.int 5 t) := let ⟨t, e⟩ := Z.mHANDLERS; ⟨t, PySem.W.mg_of X G e⟩
  have mSTATES : ∃ t, mg "MOST_STATES" = some (.int 600 t) := let ⟨t, e⟩ := Z.mSTATES; ⟨t, PySem.W.mg_of X G e⟩
  have mTERMS : ∃ t, mg "MOST_TERMS" = some (.int 6 t) := let ⟨t, e⟩ := Z.mTERMS; ⟨t, PySem.W.mg_of X G e⟩
  have mROWS : ∃ t, mg "MOST_ROWS" = some (.int 20000 t) := let ⟨t, e⟩ := Z.mROWS; ⟨t, PySem.W.mg_of X G e⟩
  have mSIGNSN : ∃ t, mg "MOST_SIGNS" = some (.int 8 t) := let ⟨t, e⟩ := Z.mSIGNSN; ⟨t, PySem.W.mg_of X G e⟩
  have mLET : ∃ t, mg "LETTERS" = some (.str "abcdefghijklmnopqrstuvwxyz" t) := let ⟨t, e⟩ := Z.mLETTERS; ⟨t, PySem.W.mg_of X G e⟩
  have mSIG : ∃ t, mg "SIGNS" = some (.str "abcdefghijklmnopqrstuvwxyz0123456789" t) := let ⟨t, e⟩ := Z.mSIGNS; ⟨t, PySem.W.mg_of X G e⟩
  obtain rfl : fa = 980 := by
    have e := hfa.symm.trans g_law
    cases e
    rfl
  obtain ⟨d_figures_of, F_figures_of⟩ := Z.f_figures_of
  obtain ⟨d_is_number, F_is_number⟩ := Z.f_is_number
  obtain ⟨d_is_at_least, F_is_at_least⟩ := Z.f_is_at_least
  obtain ⟨d_is_name, F_is_name⟩ := Z.f_is_name
  obtain ⟨d_plain_name, F_plain_name⟩ := Z.f_plain_name
  obtain ⟨d_is_pair, F_is_pair⟩ := Z.f_is_pair
  obtain ⟨d_wrong_pair_at, F_wrong_pair_at⟩ := Z.f_wrong_pair_at
  obtain ⟨d_by_name, F_by_name⟩ := Z.f_by_name
  obtain ⟨d_plain_pairs, F_plain_pairs⟩ := Z.f_plain_pairs
  obtain ⟨d__law_source, F__law_source⟩ := Z.f__law_source
  obtain ⟨d__law_pull, F__law_pull⟩ := Z.f__law_pull
  obtain ⟨d__law_values, F__law_values⟩ := Z.f__law_values
  obtain ⟨d__law_indexes, F__law_indexes⟩ := Z.f__law_indexes
  obtain ⟨d__law_others, F__law_others⟩ := Z.f__law_others
  obtain ⟨d__law_tops, F__law_tops⟩ := Z.f__law_tops
  obtain ⟨d__law_classes, F__law_classes⟩ := Z.f__law_classes
  obtain ⟨d__law_kin, F__law_kin⟩ := Z.f__law_kin
  obtain ⟨d__law_right, F__law_right⟩ := Z.f__law_right
  obtain ⟨d_law, F_law⟩ := Z.f_law
  obtain ⟨d_init_NotALoad, F_init_NotALoad⟩ := Z.f_init_NotALoad
  obtain ⟨d_init_NotAHandler, F_init_NotAHandler⟩ := Z.f_init_NotAHandler
  obtain ⟨d_init_NotAWeb, F_init_NotAWeb⟩ := Z.f_init_NotAWeb
  obtain ⟨d_init_InvalidName, F_init_InvalidName⟩ := Z.f_init_InvalidName
  obtain ⟨d_init_InvalidText, F_init_InvalidText⟩ := Z.f_init_InvalidText
  obtain ⟨d_init_InvalidNumber, F_init_InvalidNumber⟩ := Z.f_init_InvalidNumber
  obtain ⟨d_init_InvalidRest, F_init_InvalidRest⟩ := Z.f_init_InvalidRest
  obtain ⟨d_init_InvalidChoice, F_init_InvalidChoice⟩ := Z.f_init_InvalidChoice
  obtain ⟨d_init_InvalidLine, F_init_InvalidLine⟩ := Z.f_init_InvalidLine
  obtain ⟨d_init_UnknownKind, F_init_UnknownKind⟩ := Z.f_init_UnknownKind
  obtain ⟨d_init_InvalidPairs, F_init_InvalidPairs⟩ := Z.f_init_InvalidPairs
  obtain ⟨d_init_InvalidKinds, F_init_InvalidKinds⟩ := Z.f_init_InvalidKinds
  obtain ⟨d_init_InvalidRows, F_init_InvalidRows⟩ := Z.f_init_InvalidRows
  obtain ⟨d_init_InvalidNames, F_init_InvalidNames⟩ := Z.f_init_InvalidNames
  obtain ⟨d_init_InvalidHandlers, F_init_InvalidHandlers⟩ := Z.f_init_InvalidHandlers
  obtain ⟨d_init_InvalidEntries, F_init_InvalidEntries⟩ := Z.f_init_InvalidEntries
  obtain ⟨d_init_InvalidIndexes, F_init_InvalidIndexes⟩ := Z.f_init_InvalidIndexes
  obtain ⟨d_init_InvalidTerms, F_init_InvalidTerms⟩ := Z.f_init_InvalidTerms
  obtain ⟨d_init_InvalidDeeds, F_init_InvalidDeeds⟩ := Z.f_init_InvalidDeeds
  obtain ⟨d_init_Lacking, F_init_Lacking⟩ := Z.f_init_Lacking
  obtain ⟨d_init_Heeds, F_init_Heeds⟩ := Z.f_init_Heeds
  obtain ⟨d_init_NotLasting, F_init_NotLasting⟩ := Z.f_init_NotLasting
  obtain ⟨d_init_Meddling, F_init_Meddling⟩ := Z.f_init_Meddling
  obtain ⟨d_init_Refused, F_init_Refused⟩ := Z.f_init_Refused
  obtain ⟨d_init_TooManyKinds, F_init_TooManyKinds⟩ := Z.f_init_TooManyKinds
  obtain ⟨d_init_TooManyStates, F_init_TooManyStates⟩ := Z.f_init_TooManyStates
  obtain ⟨d_init_TooManyRows, F_init_TooManyRows⟩ := Z.f_init_TooManyRows
  obtain ⟨d_load_init, F_load_init⟩ := Z.f_load_init
  obtain ⟨d_load_repr, F_load_repr⟩ := Z.f_load_repr
  obtain ⟨d_load_size, F_load_size⟩ := Z.f_load_size
  have o_NotALoad := ox_of (rep_all Z.oxV 70 (by simp))
  have o_NotAHandler := ox_of (rep_all Z.oxV 89 (by simp))
  have o_NotAWeb := ox_of (rep_all Z.oxV 108 (by simp))
  have o_InvalidName := ox_of (rep_all Z.oxV 127 (by simp))
  have o_InvalidText := ox_of (rep_all Z.oxV 146 (by simp))
  have o_InvalidNumber := ox_of (rep_all Z.oxV 165 (by simp))
  have o_InvalidRest := ox_of (rep_all Z.oxV 184 (by simp))
  have o_InvalidChoice := ox_of (rep_all Z.oxV 203 (by simp))
  have o_InvalidLine := ox_of (rep_all Z.oxV 222 (by simp))
  have o_UnknownKind := ox_of (rep_all Z.oxV 241 (by simp))
  have o_InvalidPairs := ox_of (rep_all Z.oxV 260 (by simp))
  have o_InvalidKinds := ox_of (rep_all Z.oxV 279 (by simp))
  have o_InvalidRows := ox_of (rep_all Z.oxV 298 (by simp))
  have o_InvalidNames := ox_of (rep_all Z.oxV 317 (by simp))
  have o_InvalidHandlers := ox_of (rep_all Z.oxV 336 (by simp))
  have o_InvalidEntries := ox_of (rep_all Z.oxV 355 (by simp))
  have o_InvalidIndexes := ox_of (rep_all Z.oxV 374 (by simp))
  have o_InvalidTerms := ox_of (rep_all Z.oxV 393 (by simp))
  have o_InvalidDeeds := ox_of (rep_all Z.oxV 412 (by simp))
  have o_Lacking := ox_of (rep_all Z.oxL 431 (by simp))
  have o_Heeds := ox_of (rep_all Z.oxL 450 (by simp))
  have o_NotLasting := ox_of (rep_all Z.oxL 469 (by simp))
  have o_Meddling := ox_of (rep_all Z.oxL 488 (by simp))
  have o_Refused := ox_of (rep_all Z.oxL 507 (by simp))
  have o_Endless := ox_of (rep_all Z.oxL 519 (by simp))
  have o_NotComparable := ox_of (rep_all Z.oxL 531 (by simp))
  have o_NothingToUndo := ox_of (rep_all Z.oxL 543 (by simp))
  have o_Busy := ox_of (rep_all Z.oxL 555 (by simp))
  have o_TooManyKinds := ox_of (rep_all Z.oxA 574 (by simp))
  have o_TooManyStates := ox_of (rep_all Z.oxA 593 (by simp))
  have o_TooManyRows := ox_of (rep_all Z.oxA 612 (by simp))
  have OG : OxG K := ⟨Z.og.1, Z.og.2⟩
  have cl : Cls K 912 := by
    have z := Z.ld
    simp only [Prod.mk.injEq] at z
    have y := Z.lf
    simp only [Prod.mk.injEq] at y
    exact ⟨z.2.1, z.2.2.1, z.2.2.2.1, y.1⟩
  have mk : Mk K 912 750 := by
    have z := Z.ld
    simp only [Prod.mk.injEq] at z
    have y := Z.lf
    simp only [Prod.mk.injEq] at y
    exact ⟨z.1, y.2.1, z.2.2.2.2.2, z.2.2.2.2.1⟩
  have hre : PySem.W.findIn K (.ref 912) "__repr__" = some (some (.ref 909)) ∧ PySem.W.typeIn K (.ref 909) = some (.type "function") ∧ PySem.W.findIn K (.ref 912) "size" = some (some (.ref 790)) := by
    have y := Z.lf
    simp only [Prod.mk.injEq] at y
    exact ⟨y.2.2.1, y.2.2.2.2, y.2.2.2.1⟩
  have prop : PropOf K 912 "size" 790 789 := by
    refine ⟨hre.2.2, Z.lp.1, Z.lp.2, ?_⟩
    have z := Z.lq
    cases e : PySem.W.recIn K 790 "property" with
    | none =>
      rw [e] at z
      cases z
    | some l =>
      rw [e] at z
      cases l with
      | nil => cases z
      | cons a r =>
        have y : a = Value.ref 789 := by simpa using z
        exact ⟨r, by rw [y]⟩
  refine ⟨d_law, fun s u => ?_, fun base _ _ => ?_⟩
  · obtain ⟨oc, od, kV, doc, pm, an, cdv, ct, osl, e, _⟩ := F_law.ex
    subst e
    exact .of_eq rfl
  have BN : BltN mg := ⟨b_isinstance, b_int, b_bool, b_str, b_tuple, b_len, b_all, mLET, mSIG, mSIGNSN⟩
  have BS : BltS mg := ⟨b_sorted, b_str, b_tuple, b_int⟩
  have BX : BltX mg := ⟨b_isinstance, b_ValueError, b_LookupError, b_ArithmeticError⟩
  have BL : Blt mg := ⟨b_len, b_int, b_abs⟩
  let C_figures_of : Cal P w K mg base _ "figures_of" _ _ := ⟨621, d_figures_of, ok_fig F_figures_of b_str, g_figures_of, F_figures_of.kp, (F_figures_of.binds (ps := ["number"]) fun _ _ _ _ _ _ us hl => match us, hl with | [_], _ => rfl)⟩
  let C_is_number : Cal P w K mg base _ "is_number" _ _ := ⟨633, d_is_number, ok_isNumber F_is_number BN, g_is_number, F_is_number.kp, (F_is_number.binds (ps := ["value"]) fun _ _ _ _ _ _ us hl => match us, hl with | [_], _ => rfl)⟩
  let C_is_at_least : Cal P w K mg base _ "is_at_least" _ _ := ⟨640, d_is_at_least, ok_isAtLeast F_is_at_least C_is_number, g_is_at_least, F_is_at_least.kp, (F_is_at_least.binds (ps := ["value", "least"]) fun _ _ _ _ _ _ us hl => match us, hl with | [_, _], _ => rfl)⟩
  let C_is_name : Cal P w K mg base _ "is_name" _ _ := ⟨645, d_is_name, ok_isName F_is_name BN, g_is_name, F_is_name.kp, (F_is_name.binds (ps := ["value"]) fun _ _ _ _ _ _ us hl => match us, hl with | [_], _ => rfl)⟩
  let C_plain_name : Cal P w K mg base _ "plain_name" _ _ := ⟨652, d_plain_name, ok_plainName F_plain_name, g_plain_name, F_plain_name.kp, (F_plain_name.binds (ps := ["name"]) fun _ _ _ _ _ _ us hl => match us, hl with | [_], _ => rfl)⟩
  let C_is_pair : Cal P w K mg base _ "is_pair" _ _ := ⟨659, d_is_pair, ok_isPair F_is_pair BN C_is_name C_is_at_least, g_is_pair, F_is_pair.kp, (F_is_pair.binds (ps := ["value"]) fun _ _ _ _ _ _ us hl => match us, hl with | [_], _ => rfl)⟩
  let C_wrong_pair_at : Cal P w K mg base _ "wrong_pair_at" _ _ := ⟨666, d_wrong_pair_at, ok_wrong F_wrong_pair_at b_enumerate C_is_pair, g_wrong_pair_at, F_wrong_pair_at.kp, (F_wrong_pair_at.binds (ps := ["pairs"]) fun _ _ _ _ _ _ us hl => match us, hl with | [_], _ => rfl)⟩
  let C_by_name : Cal P w K mg base _ "by_name" _ _ := ⟨678, d_by_name, ok_byName F_by_name BS, g_by_name, F_by_name.kp, (F_by_name.binds (ps := ["counts"]) fun _ _ _ _ _ _ us hl => match us, hl with | [_], _ => rfl)⟩
  let C_plain_pairs : Cal P w K mg base _ "plain_pairs" _ _ := ⟨683, d_plain_pairs, ok_plainPairs F_plain_pairs BS C_plain_name C_by_name, g_plain_pairs, F_plain_pairs.kp, (F_plain_pairs.binds (ps := ["pairs"]) fun _ _ _ _ _ _ us hl => match us, hl with | [_], _ => rfl)⟩
  have LI := ok_loadInit (P := P) (w := w) (base := base) F_load_init cl (map_at Z.no 29 rfl rfl : PySem.W.findIn K (.ref 912) "_pairs" = some none) (map_at Z.no 30 rfl rfl : PySem.W.findIn K (.ref 912) "_counts" = some none) b_dict C_wrong_pair_at C_plain_pairs
  have LS := ok_size (P := P) (w := w) (mg := mg) (base := base) F_load_size cl (map_at Z.no 29 rfl rfl : PySem.W.findIn K (.ref 912) "_pairs" = some none) b_sum
  have LR := ok_repr (P := P) (w := w) (base := base) F_load_repr cl (map_at Z.no 29 rfl rfl : PySem.W.findIn K (.ref 912) "_pairs" = some none) b_len prop LS (F_load_size.binds (ps := ["self"]) fun _ _ _ _ _ _ us hl => match us, hl with | [_], _ => rfl) C_figures_of
  have e_NotALoad : Ex1 P w K mg base "NotALoad" "value" 70 := ⟨67, _, _, _, _, d_init_NotALoad, ⟨PySem.F.excBase_ValueError, tailV, o_NotALoad.1, o_NotALoad.2, (map_at Z.fi 0 rfl rfl : PySem.W.findIn K (.ref 70) "__init__" = some (some (.ref 67))), (map_at Z.ty 0 rfl rfl : PySem.W.typeIn K (.ref 67) = some (.type "function")), okI4 F_init_NotALoad tailV o_NotALoad.1 (map_at Z.no 0 rfl rfl : PySem.W.findIn K (.ref 70) "value" = some none), bdI4 F_init_NotALoad, g_NotALoad⟩, kbI4 F_init_NotALoad, (map_at Z.no 0 rfl rfl : PySem.W.findIn K (.ref 70) "value" = some none)⟩
  have e_NotAHandler : Ex1 P w K mg base "NotAHandler" "value" 89 := ⟨86, _, _, _, _, d_init_NotAHandler, ⟨PySem.F.excBase_ValueError, tailV, o_NotAHandler.1, o_NotAHandler.2, (map_at Z.fi 1 rfl rfl : PySem.W.findIn K (.ref 89) "__init__" = some (some (.ref 86))), (map_at Z.ty 1 rfl rfl : PySem.W.typeIn K (.ref 86) = some (.type "function")), okI5 F_init_NotAHandler tailV o_NotAHandler.1 (map_at Z.no 1 rfl rfl : PySem.W.findIn K (.ref 89) "value" = some none), bdI5 F_init_NotAHandler, g_NotAHandler⟩, kbI5 F_init_NotAHandler, (map_at Z.no 1 rfl rfl : PySem.W.findIn K (.ref 89) "value" = some none)⟩
  have e_NotAWeb : Ex1 P w K mg base "NotAWeb" "value" 108 := ⟨105, _, _, _, _, d_init_NotAWeb, ⟨PySem.F.excBase_ValueError, tailV, o_NotAWeb.1, o_NotAWeb.2, (map_at Z.fi 2 rfl rfl : PySem.W.findIn K (.ref 108) "__init__" = some (some (.ref 105))), (map_at Z.ty 2 rfl rfl : PySem.W.typeIn K (.ref 105) = some (.type "function")), okI6 F_init_NotAWeb tailV o_NotAWeb.1 (map_at Z.no 2 rfl rfl : PySem.W.findIn K (.ref 108) "value" = some none), bdI6 F_init_NotAWeb, g_NotAWeb⟩, kbI6 F_init_NotAWeb, (map_at Z.no 2 rfl rfl : PySem.W.findIn K (.ref 108) "value" = some none)⟩
  have e_InvalidName : Ex1 P w K mg base "InvalidName" "value" 127 := ⟨124, _, _, _, _, d_init_InvalidName, ⟨PySem.F.excBase_ValueError, tailV, o_InvalidName.1, o_InvalidName.2, (map_at Z.fi 3 rfl rfl : PySem.W.findIn K (.ref 127) "__init__" = some (some (.ref 124))), (map_at Z.ty 3 rfl rfl : PySem.W.typeIn K (.ref 124) = some (.type "function")), okI7 F_init_InvalidName tailV o_InvalidName.1 (map_at Z.no 3 rfl rfl : PySem.W.findIn K (.ref 127) "value" = some none), bdI7 F_init_InvalidName, g_InvalidName⟩, kbI7 F_init_InvalidName, (map_at Z.no 3 rfl rfl : PySem.W.findIn K (.ref 127) "value" = some none)⟩
  have e_InvalidText : Ex1 P w K mg base "InvalidText" "value" 146 := ⟨143, _, _, _, _, d_init_InvalidText, ⟨PySem.F.excBase_ValueError, tailV, o_InvalidText.1, o_InvalidText.2, (map_at Z.fi 4 rfl rfl : PySem.W.findIn K (.ref 146) "__init__" = some (some (.ref 143))), (map_at Z.ty 4 rfl rfl : PySem.W.typeIn K (.ref 143) = some (.type "function")), okI8 F_init_InvalidText tailV o_InvalidText.1 (map_at Z.no 4 rfl rfl : PySem.W.findIn K (.ref 146) "value" = some none), bdI8 F_init_InvalidText, g_InvalidText⟩, kbI8 F_init_InvalidText, (map_at Z.no 4 rfl rfl : PySem.W.findIn K (.ref 146) "value" = some none)⟩
  have e_InvalidNumber : Ex1 P w K mg base "InvalidNumber" "value" 165 := ⟨162, _, _, _, _, d_init_InvalidNumber, ⟨PySem.F.excBase_ValueError, tailV, o_InvalidNumber.1, o_InvalidNumber.2, (map_at Z.fi 5 rfl rfl : PySem.W.findIn K (.ref 165) "__init__" = some (some (.ref 162))), (map_at Z.ty 5 rfl rfl : PySem.W.typeIn K (.ref 162) = some (.type "function")), okI9 F_init_InvalidNumber tailV o_InvalidNumber.1 (map_at Z.no 5 rfl rfl : PySem.W.findIn K (.ref 165) "value" = some none), bdI9 F_init_InvalidNumber, g_InvalidNumber⟩, kbI9 F_init_InvalidNumber, (map_at Z.no 5 rfl rfl : PySem.W.findIn K (.ref 165) "value" = some none)⟩
  have e_InvalidRest : Ex1 P w K mg base "InvalidRest" "value" 184 := ⟨181, _, _, _, _, d_init_InvalidRest, ⟨PySem.F.excBase_ValueError, tailV, o_InvalidRest.1, o_InvalidRest.2, (map_at Z.fi 6 rfl rfl : PySem.W.findIn K (.ref 184) "__init__" = some (some (.ref 181))), (map_at Z.ty 6 rfl rfl : PySem.W.typeIn K (.ref 181) = some (.type "function")), okI10 F_init_InvalidRest tailV o_InvalidRest.1 (map_at Z.no 6 rfl rfl : PySem.W.findIn K (.ref 184) "value" = some none), bdI10 F_init_InvalidRest, g_InvalidRest⟩, kbI10 F_init_InvalidRest, (map_at Z.no 6 rfl rfl : PySem.W.findIn K (.ref 184) "value" = some none)⟩
  have e_InvalidChoice : Ex1 P w K mg base "InvalidChoice" "value" 203 := ⟨200, _, _, _, _, d_init_InvalidChoice, ⟨PySem.F.excBase_ValueError, tailV, o_InvalidChoice.1, o_InvalidChoice.2, (map_at Z.fi 7 rfl rfl : PySem.W.findIn K (.ref 203) "__init__" = some (some (.ref 200))), (map_at Z.ty 7 rfl rfl : PySem.W.typeIn K (.ref 200) = some (.type "function")), okI11 F_init_InvalidChoice tailV o_InvalidChoice.1 (map_at Z.no 7 rfl rfl : PySem.W.findIn K (.ref 203) "value" = some none), bdI11 F_init_InvalidChoice, g_InvalidChoice⟩, kbI11 F_init_InvalidChoice, (map_at Z.no 7 rfl rfl : PySem.W.findIn K (.ref 203) "value" = some none)⟩
  have e_InvalidLine : Ex1 P w K mg base "InvalidLine" "value" 222 := ⟨219, _, _, _, _, d_init_InvalidLine, ⟨PySem.F.excBase_ValueError, tailV, o_InvalidLine.1, o_InvalidLine.2, (map_at Z.fi 8 rfl rfl : PySem.W.findIn K (.ref 222) "__init__" = some (some (.ref 219))), (map_at Z.ty 8 rfl rfl : PySem.W.typeIn K (.ref 219) = some (.type "function")), okI12 F_init_InvalidLine tailV o_InvalidLine.1 (map_at Z.no 8 rfl rfl : PySem.W.findIn K (.ref 222) "value" = some none), bdI12 F_init_InvalidLine, g_InvalidLine⟩, kbI12 F_init_InvalidLine, (map_at Z.no 8 rfl rfl : PySem.W.findIn K (.ref 222) "value" = some none)⟩
  have e_UnknownKind : Ex1 P w K mg base "UnknownKind" "value" 241 := ⟨238, _, _, _, _, d_init_UnknownKind, ⟨PySem.F.excBase_ValueError, tailV, o_UnknownKind.1, o_UnknownKind.2, (map_at Z.fi 9 rfl rfl : PySem.W.findIn K (.ref 241) "__init__" = some (some (.ref 238))), (map_at Z.ty 9 rfl rfl : PySem.W.typeIn K (.ref 238) = some (.type "function")), okI13 F_init_UnknownKind tailV o_UnknownKind.1 (map_at Z.no 9 rfl rfl : PySem.W.findIn K (.ref 241) "value" = some none), bdI13 F_init_UnknownKind, g_UnknownKind⟩, kbI13 F_init_UnknownKind, (map_at Z.no 9 rfl rfl : PySem.W.findIn K (.ref 241) "value" = some none)⟩
  have e_InvalidPairs : Ex1 P w K mg base "InvalidPairs" "index" 260 := ⟨257, _, _, _, _, d_init_InvalidPairs, ⟨PySem.F.excBase_ValueError, tailV, o_InvalidPairs.1, o_InvalidPairs.2, (map_at Z.fi 10 rfl rfl : PySem.W.findIn K (.ref 260) "__init__" = some (some (.ref 257))), (map_at Z.ty 10 rfl rfl : PySem.W.typeIn K (.ref 257) = some (.type "function")), okI14 F_init_InvalidPairs tailV o_InvalidPairs.1 (map_at Z.no 10 rfl rfl : PySem.W.findIn K (.ref 260) "index" = some none), bdI14 F_init_InvalidPairs, g_InvalidPairs⟩, kbI14 F_init_InvalidPairs, (map_at Z.no 10 rfl rfl : PySem.W.findIn K (.ref 260) "index" = some none)⟩
  have e_InvalidKinds : Ex1 P w K mg base "InvalidKinds" "index" 279 := ⟨276, _, _, _, _, d_init_InvalidKinds, ⟨PySem.F.excBase_ValueError, tailV, o_InvalidKinds.1, o_InvalidKinds.2, (map_at Z.fi 11 rfl rfl : PySem.W.findIn K (.ref 279) "__init__" = some (some (.ref 276))), (map_at Z.ty 11 rfl rfl : PySem.W.typeIn K (.ref 276) = some (.type "function")), okI15 F_init_InvalidKinds tailV o_InvalidKinds.1 (map_at Z.no 11 rfl rfl : PySem.W.findIn K (.ref 279) "index" = some none), bdI15 F_init_InvalidKinds, g_InvalidKinds⟩, kbI15 F_init_InvalidKinds, (map_at Z.no 11 rfl rfl : PySem.W.findIn K (.ref 279) "index" = some none)⟩
  have e_InvalidRows : Ex1 P w K mg base "InvalidRows" "index" 298 := ⟨295, _, _, _, _, d_init_InvalidRows, ⟨PySem.F.excBase_ValueError, tailV, o_InvalidRows.1, o_InvalidRows.2, (map_at Z.fi 12 rfl rfl : PySem.W.findIn K (.ref 298) "__init__" = some (some (.ref 295))), (map_at Z.ty 12 rfl rfl : PySem.W.typeIn K (.ref 295) = some (.type "function")), okI16 F_init_InvalidRows tailV o_InvalidRows.1 (map_at Z.no 12 rfl rfl : PySem.W.findIn K (.ref 298) "index" = some none), bdI16 F_init_InvalidRows, g_InvalidRows⟩, kbI16 F_init_InvalidRows, (map_at Z.no 12 rfl rfl : PySem.W.findIn K (.ref 298) "index" = some none)⟩
  have e_InvalidNames : Ex1 P w K mg base "InvalidNames" "index" 317 := ⟨314, _, _, _, _, d_init_InvalidNames, ⟨PySem.F.excBase_ValueError, tailV, o_InvalidNames.1, o_InvalidNames.2, (map_at Z.fi 13 rfl rfl : PySem.W.findIn K (.ref 317) "__init__" = some (some (.ref 314))), (map_at Z.ty 13 rfl rfl : PySem.W.typeIn K (.ref 314) = some (.type "function")), okI17 F_init_InvalidNames tailV o_InvalidNames.1 (map_at Z.no 13 rfl rfl : PySem.W.findIn K (.ref 317) "index" = some none), bdI17 F_init_InvalidNames, g_InvalidNames⟩, kbI17 F_init_InvalidNames, (map_at Z.no 13 rfl rfl : PySem.W.findIn K (.ref 317) "index" = some none)⟩
  have e_InvalidHandlers : Ex1 P w K mg base "InvalidHandlers" "index" 336 := ⟨333, _, _, _, _, d_init_InvalidHandlers, ⟨PySem.F.excBase_ValueError, tailV, o_InvalidHandlers.1, o_InvalidHandlers.2, (map_at Z.fi 14 rfl rfl : PySem.W.findIn K (.ref 336) "__init__" = some (some (.ref 333))), (map_at Z.ty 14 rfl rfl : PySem.W.typeIn K (.ref 333) = some (.type "function")), okI18 F_init_InvalidHandlers tailV o_InvalidHandlers.1 (map_at Z.no 14 rfl rfl : PySem.W.findIn K (.ref 336) "index" = some none), bdI18 F_init_InvalidHandlers, g_InvalidHandlers⟩, kbI18 F_init_InvalidHandlers, (map_at Z.no 14 rfl rfl : PySem.W.findIn K (.ref 336) "index" = some none)⟩
  have e_InvalidEntries : Ex1 P w K mg base "InvalidEntries" "index" 355 := ⟨352, _, _, _, _, d_init_InvalidEntries, ⟨PySem.F.excBase_ValueError, tailV, o_InvalidEntries.1, o_InvalidEntries.2, (map_at Z.fi 15 rfl rfl : PySem.W.findIn K (.ref 355) "__init__" = some (some (.ref 352))), (map_at Z.ty 15 rfl rfl : PySem.W.typeIn K (.ref 352) = some (.type "function")), okI19 F_init_InvalidEntries tailV o_InvalidEntries.1 (map_at Z.no 15 rfl rfl : PySem.W.findIn K (.ref 355) "index" = some none), bdI19 F_init_InvalidEntries, g_InvalidEntries⟩, kbI19 F_init_InvalidEntries, (map_at Z.no 15 rfl rfl : PySem.W.findIn K (.ref 355) "index" = some none)⟩
  have e_InvalidIndexes : Ex1 P w K mg base "InvalidIndexes" "index" 374 := ⟨371, _, _, _, _, d_init_InvalidIndexes, ⟨PySem.F.excBase_ValueError, tailV, o_InvalidIndexes.1, o_InvalidIndexes.2, (map_at Z.fi 16 rfl rfl : PySem.W.findIn K (.ref 374) "__init__" = some (some (.ref 371))), (map_at Z.ty 16 rfl rfl : PySem.W.typeIn K (.ref 371) = some (.type "function")), okI20 F_init_InvalidIndexes tailV o_InvalidIndexes.1 (map_at Z.no 16 rfl rfl : PySem.W.findIn K (.ref 374) "index" = some none), bdI20 F_init_InvalidIndexes, g_InvalidIndexes⟩, kbI20 F_init_InvalidIndexes, (map_at Z.no 16 rfl rfl : PySem.W.findIn K (.ref 374) "index" = some none)⟩
  have e_InvalidTerms : Ex1 P w K mg base "InvalidTerms" "index" 393 := ⟨390, _, _, _, _, d_init_InvalidTerms, ⟨PySem.F.excBase_ValueError, tailV, o_InvalidTerms.1, o_InvalidTerms.2, (map_at Z.fi 17 rfl rfl : PySem.W.findIn K (.ref 393) "__init__" = some (some (.ref 390))), (map_at Z.ty 17 rfl rfl : PySem.W.typeIn K (.ref 390) = some (.type "function")), okI21 F_init_InvalidTerms tailV o_InvalidTerms.1 (map_at Z.no 17 rfl rfl : PySem.W.findIn K (.ref 393) "index" = some none), bdI21 F_init_InvalidTerms, g_InvalidTerms⟩, kbI21 F_init_InvalidTerms, (map_at Z.no 17 rfl rfl : PySem.W.findIn K (.ref 393) "index" = some none)⟩
  have e_InvalidDeeds : Ex1 P w K mg base "InvalidDeeds" "index" 412 := ⟨409, _, _, _, _, d_init_InvalidDeeds, ⟨PySem.F.excBase_ValueError, tailV, o_InvalidDeeds.1, o_InvalidDeeds.2, (map_at Z.fi 18 rfl rfl : PySem.W.findIn K (.ref 412) "__init__" = some (some (.ref 409))), (map_at Z.ty 18 rfl rfl : PySem.W.typeIn K (.ref 409) = some (.type "function")), okI22 F_init_InvalidDeeds tailV o_InvalidDeeds.1 (map_at Z.no 18 rfl rfl : PySem.W.findIn K (.ref 412) "index" = some none), bdI22 F_init_InvalidDeeds, g_InvalidDeeds⟩, kbI22 F_init_InvalidDeeds, (map_at Z.no 18 rfl rfl : PySem.W.findIn K (.ref 412) "index" = some none)⟩
  have e_Lacking : Ex1 P w K mg base "Lacking" "name" 431 := ⟨428, _, _, _, _, d_init_Lacking, ⟨PySem.F.excBase_LookupError, tailL, o_Lacking.1, o_Lacking.2, (map_at Z.fi 19 rfl rfl : PySem.W.findIn K (.ref 431) "__init__" = some (some (.ref 428))), (map_at Z.ty 19 rfl rfl : PySem.W.typeIn K (.ref 428) = some (.type "function")), okI23 F_init_Lacking tailL o_Lacking.1 (map_at Z.no 19 rfl rfl : PySem.W.findIn K (.ref 431) "name" = some none), bdI23 F_init_Lacking, g_Lacking⟩, kbI23 F_init_Lacking, (map_at Z.no 19 rfl rfl : PySem.W.findIn K (.ref 431) "name" = some none)⟩
  have e_Heeds : Ex3 P w K mg base 450 := ⟨447, _, _, _, _, d_init_Heeds, ⟨PySem.F.excBase_LookupError, tailL, o_Heeds.1, o_Heeds.2, (map_at Z.fi 20 rfl rfl : PySem.W.findIn K (.ref 450) "__init__" = some (some (.ref 447))), (map_at Z.ty 20 rfl rfl : PySem.W.typeIn K (.ref 447) = some (.type "function")), okI24 F_init_Heeds tailL o_Heeds.1 (map_at Z.no 26 rfl rfl : PySem.W.findIn K (.ref 450) "state" = some none) (map_at Z.no 27 rfl rfl : PySem.W.findIn K (.ref 450) "one" = some none) (map_at Z.no 28 rfl rfl : PySem.W.findIn K (.ref 450) "other" = some none), bdI24 F_init_Heeds, g_Heeds⟩, kbI24 F_init_Heeds, (map_at Z.no 26 rfl rfl : PySem.W.findIn K (.ref 450) "state" = some none), (map_at Z.no 27 rfl rfl : PySem.W.findIn K (.ref 450) "one" = some none), (map_at Z.no 28 rfl rfl : PySem.W.findIn K (.ref 450) "other" = some none)⟩
  have e_NotLasting : Ex1 P w K mg base "NotLasting" "rest" 469 := ⟨466, _, _, _, _, d_init_NotLasting, ⟨PySem.F.excBase_LookupError, tailL, o_NotLasting.1, o_NotLasting.2, (map_at Z.fi 21 rfl rfl : PySem.W.findIn K (.ref 469) "__init__" = some (some (.ref 466))), (map_at Z.ty 21 rfl rfl : PySem.W.typeIn K (.ref 466) = some (.type "function")), okI25 F_init_NotLasting tailL o_NotLasting.1 (map_at Z.no 20 rfl rfl : PySem.W.findIn K (.ref 469) "rest" = some none), bdI25 F_init_NotLasting, g_NotLasting⟩, kbI25 F_init_NotLasting, (map_at Z.no 20 rfl rfl : PySem.W.findIn K (.ref 469) "rest" = some none)⟩
  have e_Meddling : Ex1 P w K mg base "Meddling" "load" 488 := ⟨485, _, _, _, _, d_init_Meddling, ⟨PySem.F.excBase_LookupError, tailL, o_Meddling.1, o_Meddling.2, (map_at Z.fi 22 rfl rfl : PySem.W.findIn K (.ref 488) "__init__" = some (some (.ref 485))), (map_at Z.ty 22 rfl rfl : PySem.W.typeIn K (.ref 485) = some (.type "function")), okI26 F_init_Meddling tailL o_Meddling.1 (map_at Z.no 21 rfl rfl : PySem.W.findIn K (.ref 488) "load" = some none), bdI26 F_init_Meddling, g_Meddling⟩, kbI26 F_init_Meddling, (map_at Z.no 21 rfl rfl : PySem.W.findIn K (.ref 488) "load" = some none)⟩
  have e_Refused : Ex1 P w K mg base "Refused" "load" 507 := ⟨504, _, _, _, _, d_init_Refused, ⟨PySem.F.excBase_LookupError, tailL, o_Refused.1, o_Refused.2, (map_at Z.fi 23 rfl rfl : PySem.W.findIn K (.ref 507) "__init__" = some (some (.ref 504))), (map_at Z.ty 23 rfl rfl : PySem.W.typeIn K (.ref 504) = some (.type "function")), okI27 F_init_Refused tailL o_Refused.1 (map_at Z.no 22 rfl rfl : PySem.W.findIn K (.ref 507) "load" = some none), bdI27 F_init_Refused, g_Refused⟩, kbI27 F_init_Refused, (map_at Z.no 22 rfl rfl : PySem.W.findIn K (.ref 507) "load" = some none)⟩
  have e_TooManyKinds : Ex1 P w K mg base "TooManyKinds" "limit" 574 := ⟨571, _, _, _, _, d_init_TooManyKinds, ⟨PySem.F.excBase_ArithmeticError, tailA, o_TooManyKinds.1, o_TooManyKinds.2, (map_at Z.fi 24 rfl rfl : PySem.W.findIn K (.ref 574) "__init__" = some (some (.ref 571))), (map_at Z.ty 24 rfl rfl : PySem.W.typeIn K (.ref 571) = some (.type "function")), okI32 F_init_TooManyKinds tailA o_TooManyKinds.1 (map_at Z.no 23 rfl rfl : PySem.W.findIn K (.ref 574) "limit" = some none), bdI32 F_init_TooManyKinds, g_TooManyKinds⟩, kbI32 F_init_TooManyKinds, (map_at Z.no 23 rfl rfl : PySem.W.findIn K (.ref 574) "limit" = some none)⟩
  have e_TooManyStates : Ex1 P w K mg base "TooManyStates" "limit" 593 := ⟨590, _, _, _, _, d_init_TooManyStates, ⟨PySem.F.excBase_ArithmeticError, tailA, o_TooManyStates.1, o_TooManyStates.2, (map_at Z.fi 25 rfl rfl : PySem.W.findIn K (.ref 593) "__init__" = some (some (.ref 590))), (map_at Z.ty 25 rfl rfl : PySem.W.typeIn K (.ref 590) = some (.type "function")), okI33 F_init_TooManyStates tailA o_TooManyStates.1 (map_at Z.no 24 rfl rfl : PySem.W.findIn K (.ref 593) "limit" = some none), bdI33 F_init_TooManyStates, g_TooManyStates⟩, kbI33 F_init_TooManyStates, (map_at Z.no 24 rfl rfl : PySem.W.findIn K (.ref 593) "limit" = some none)⟩
  have e_TooManyRows : Ex1 P w K mg base "TooManyRows" "limit" 612 := ⟨609, _, _, _, _, d_init_TooManyRows, ⟨PySem.F.excBase_ArithmeticError, tailA, o_TooManyRows.1, o_TooManyRows.2, (map_at Z.fi 26 rfl rfl : PySem.W.findIn K (.ref 612) "__init__" = some (some (.ref 609))), (map_at Z.ty 26 rfl rfl : PySem.W.typeIn K (.ref 609) = some (.type "function")), okI34 F_init_TooManyRows tailA o_TooManyRows.1 (map_at Z.no 25 rfl rfl : PySem.W.findIn K (.ref 612) "limit" = some none), bdI34 F_init_TooManyRows, g_TooManyRows⟩, kbI34 F_init_TooManyRows, (map_at Z.no 25 rfl rfl : PySem.W.findIn K (.ref 612) "limit" = some none)⟩
  have e_Endless : Ex0 K mg "Endless" 519 := ⟨_, _, _, _, PySem.F.excBase_LookupError, rep_all Z.e0 519 (by simp), o_Endless.1, g_Endless⟩
  have e_NotComparable : Ex0 K mg "NotComparable" 531 := ⟨_, _, _, _, PySem.F.excBase_LookupError, rep_all Z.e0 531 (by simp), o_NotComparable.1, g_NotComparable⟩
  have e_NothingToUndo : Ex0 K mg "NothingToUndo" 543 := ⟨_, _, _, _, PySem.F.excBase_LookupError, rep_all Z.e0 543 (by simp), o_NothingToUndo.1, g_NothingToUndo⟩
  have e_Busy : Ex0 K mg "Busy" 555 := ⟨_, _, _, _, PySem.F.excBase_LookupError, rep_all Z.e0 555 (by simp), o_Busy.1, g_Busy⟩
  have oxAll : ∀ C ∈ ([70, 89, 108, 127, 146, 165, 184, 203, 222, 241, 260, 279, 298, 317, 336, 355, 374, 393, 412, 431, 450, 469, 488, 507, 519, 531, 543, 555, 574, 593, 612] : List Addr), (∃ newId bmB, OxC K C newId bmB) ∧ OxI K C := by
    intro C h
    simp only [List.mem_cons, List.not_mem_nil, or_false] at h
    rcases h with rfl | rfl | rfl | rfl | rfl | rfl | rfl | rfl | rfl | rfl | rfl | rfl | rfl | rfl | rfl | rfl | rfl | rfl | rfl | rfl | rfl | rfl | rfl | rfl | rfl | rfl | rfl | rfl | rfl | rfl | rfl
    · exact ⟨⟨_, _, o_NotALoad.1⟩, o_NotALoad.2⟩
    · exact ⟨⟨_, _, o_NotAHandler.1⟩, o_NotAHandler.2⟩
    · exact ⟨⟨_, _, o_NotAWeb.1⟩, o_NotAWeb.2⟩
    · exact ⟨⟨_, _, o_InvalidName.1⟩, o_InvalidName.2⟩
    · exact ⟨⟨_, _, o_InvalidText.1⟩, o_InvalidText.2⟩
    · exact ⟨⟨_, _, o_InvalidNumber.1⟩, o_InvalidNumber.2⟩
    · exact ⟨⟨_, _, o_InvalidRest.1⟩, o_InvalidRest.2⟩
    · exact ⟨⟨_, _, o_InvalidChoice.1⟩, o_InvalidChoice.2⟩
    · exact ⟨⟨_, _, o_InvalidLine.1⟩, o_InvalidLine.2⟩
    · exact ⟨⟨_, _, o_UnknownKind.1⟩, o_UnknownKind.2⟩
    · exact ⟨⟨_, _, o_InvalidPairs.1⟩, o_InvalidPairs.2⟩
    · exact ⟨⟨_, _, o_InvalidKinds.1⟩, o_InvalidKinds.2⟩
    · exact ⟨⟨_, _, o_InvalidRows.1⟩, o_InvalidRows.2⟩
    · exact ⟨⟨_, _, o_InvalidNames.1⟩, o_InvalidNames.2⟩
    · exact ⟨⟨_, _, o_InvalidHandlers.1⟩, o_InvalidHandlers.2⟩
    · exact ⟨⟨_, _, o_InvalidEntries.1⟩, o_InvalidEntries.2⟩
    · exact ⟨⟨_, _, o_InvalidIndexes.1⟩, o_InvalidIndexes.2⟩
    · exact ⟨⟨_, _, o_InvalidTerms.1⟩, o_InvalidTerms.2⟩
    · exact ⟨⟨_, _, o_InvalidDeeds.1⟩, o_InvalidDeeds.2⟩
    · exact ⟨⟨_, _, o_Lacking.1⟩, o_Lacking.2⟩
    · exact ⟨⟨_, _, o_Heeds.1⟩, o_Heeds.2⟩
    · exact ⟨⟨_, _, o_NotLasting.1⟩, o_NotLasting.2⟩
    · exact ⟨⟨_, _, o_Meddling.1⟩, o_Meddling.2⟩
    · exact ⟨⟨_, _, o_Refused.1⟩, o_Refused.2⟩
    · exact ⟨⟨_, _, o_Endless.1⟩, o_Endless.2⟩
    · exact ⟨⟨_, _, o_NotComparable.1⟩, o_NotComparable.2⟩
    · exact ⟨⟨_, _, o_NothingToUndo.1⟩, o_NothingToUndo.2⟩
    · exact ⟨⟨_, _, o_Busy.1⟩, o_Busy.2⟩
    · exact ⟨⟨_, _, o_TooManyKinds.1⟩, o_TooManyKinds.2⟩
    · exact ⟨⟨_, _, o_TooManyStates.1⟩, o_TooManyStates.2⟩
    · exact ⟨⟨_, _, o_TooManyRows.1⟩, o_TooManyRows.2⟩
  have clAll : ∀ C ∈ ([70, 89, 108, 127, 146, 165, 184, 203, 222, 241, 260, 279, 298, 317, 336, 355, 374, 393, 412, 431, 450, 469, 488, 507, 519, 531, 543, 555, 574, 593, 612] : List Addr), ∃ bs, Paired (fun u b => PySem.W.kitOne K (.ref C) u = some b) cusN bs ∧ bs.count true = 1 := by
    intro C h
    simp only [List.mem_cons, List.not_mem_nil, or_false] at h
    rcases h with rfl | rfl | rfl | rfl | rfl | rfl | rfl | rfl | rfl | rfl | rfl | rfl | rfl | rfl | rfl | rfl | rfl | rfl | rfl | rfl | rfl | rfl | rfl | rfl | rfl | rfl | rfl | rfl | rfl | rfl | rfl
    · exact ⟨[true, false, false, false, false, false, false, false, false, false, false, false, false, false, false, false, false, false, false, false, false, false, false, false, false, false, false, false, false, false, false], kit_paired (map_at Z.c0 0 rfl rfl), rfl⟩
    · exact ⟨[false, true, false, false, false, false, false, false, false, false, false, false, false, false, false, false, false, false, false, false, false, false, false, false, false, false, false, false, false, false, false], kit_paired (map_at Z.c0 1 rfl rfl), rfl⟩
    · exact ⟨[false, false, true, false, false, false, false, false, false, false, false, false, false, false, false, false, false, false, false, false, false, false, false, false, false, false, false, false, false, false, false], kit_paired (map_at Z.c0 2 rfl rfl), rfl⟩
    · exact ⟨[false, false, false, true, false, false, false, false, false, false, false, false, false, false, false, false, false, false, false, false, false, false, false, false, false, false, false, false, false, false, false], kit_paired (map_at Z.c0 3 rfl rfl), rfl⟩
    · exact ⟨[false, false, false, false, true, false, false, false, false, false, false, false, false, false, false, false, false, false, false, false, false, false, false, false, false, false, false, false, false, false, false], kit_paired (map_at Z.c0 4 rfl rfl), rfl⟩
    · exact ⟨[false, false, false, false, false, true, false, false, false, false, false, false, false, false, false, false, false, false, false, false, false, false, false, false, false, false, false, false, false, false, false], kit_paired (map_at Z.c0 5 rfl rfl), rfl⟩
    · exact ⟨[false, false, false, false, false, false, true, false, false, false, false, false, false, false, false, false, false, false, false, false, false, false, false, false, false, false, false, false, false, false, false], kit_paired (map_at Z.c0 6 rfl rfl), rfl⟩
    · exact ⟨[false, false, false, false, false, false, false, true, false, false, false, false, false, false, false, false, false, false, false, false, false, false, false, false, false, false, false, false, false, false, false], kit_paired (map_at Z.c0 7 rfl rfl), rfl⟩
    · exact ⟨[false, false, false, false, false, false, false, false, true, false, false, false, false, false, false, false, false, false, false, false, false, false, false, false, false, false, false, false, false, false, false], kit_paired (map_at Z.c8 0 rfl rfl), rfl⟩
    · exact ⟨[false, false, false, false, false, false, false, false, false, true, false, false, false, false, false, false, false, false, false, false, false, false, false, false, false, false, false, false, false, false, false], kit_paired (map_at Z.c8 1 rfl rfl), rfl⟩
    · exact ⟨[false, false, false, false, false, false, false, false, false, false, true, false, false, false, false, false, false, false, false, false, false, false, false, false, false, false, false, false, false, false, false], kit_paired (map_at Z.c8 2 rfl rfl), rfl⟩
    · exact ⟨[false, false, false, false, false, false, false, false, false, false, false, true, false, false, false, false, false, false, false, false, false, false, false, false, false, false, false, false, false, false, false], kit_paired (map_at Z.c8 3 rfl rfl), rfl⟩
    · exact ⟨[false, false, false, false, false, false, false, false, false, false, false, false, true, false, false, false, false, false, false, false, false, false, false, false, false, false, false, false, false, false, false], kit_paired (map_at Z.c8 4 rfl rfl), rfl⟩
    · exact ⟨[false, false, false, false, false, false, false, false, false, false, false, false, false, true, false, false, false, false, false, false, false, false, false, false, false, false, false, false, false, false, false], kit_paired (map_at Z.c8 5 rfl rfl), rfl⟩
    · exact ⟨[false, false, false, false, false, false, false, false, false, false, false, false, false, false, true, false, false, false, false, false, false, false, false, false, false, false, false, false, false, false, false], kit_paired (map_at Z.c8 6 rfl rfl), rfl⟩
    · exact ⟨[false, false, false, false, false, false, false, false, false, false, false, false, false, false, false, true, false, false, false, false, false, false, false, false, false, false, false, false, false, false, false], kit_paired (map_at Z.c8 7 rfl rfl), rfl⟩
    · exact ⟨[false, false, false, false, false, false, false, false, false, false, false, false, false, false, false, false, true, false, false, false, false, false, false, false, false, false, false, false, false, false, false], kit_paired (map_at Z.c16 0 rfl rfl), rfl⟩
    · exact ⟨[false, false, false, false, false, false, false, false, false, false, false, false, false, false, false, false, false, true, false, false, false, false, false, false, false, false, false, false, false, false, false], kit_paired (map_at Z.c16 1 rfl rfl), rfl⟩
    · exact ⟨[false, false, false, false, false, false, false, false, false, false, false, false, false, false, false, false, false, false, true, false, false, false, false, false, false, false, false, false, false, false, false], kit_paired (map_at Z.c16 2 rfl rfl), rfl⟩
    · exact ⟨[false, false, false, false, false, false, false, false, false, false, false, false, false, false, false, false, false, false, false, true, false, false, false, false, false, false, false, false, false, false, false], kit_paired (map_at Z.c16 3 rfl rfl), rfl⟩
    · exact ⟨[false, false, false, false, false, false, false, false, false, false, false, false, false, false, false, false, false, false, false, false, true, false, false, false, false, false, false, false, false, false, false], kit_paired (map_at Z.c16 4 rfl rfl), rfl⟩
    · exact ⟨[false, false, false, false, false, false, false, false, false, false, false, false, false, false, false, false, false, false, false, false, false, true, false, false, false, false, false, false, false, false, false], kit_paired (map_at Z.c16 5 rfl rfl), rfl⟩
    · exact ⟨[false, false, false, false, false, false, false, false, false, false, false, false, false, false, false, false, false, false, false, false, false, false, true, false, false, false, false, false, false, false, false], kit_paired (map_at Z.c16 6 rfl rfl), rfl⟩
    · exact ⟨[false, false, false, false, false, false, false, false, false, false, false, false, false, false, false, false, false, false, false, false, false, false, false, true, false, false, false, false, false, false, false], kit_paired (map_at Z.c16 7 rfl rfl), rfl⟩
    · exact ⟨[false, false, false, false, false, false, false, false, false, false, false, false, false, false, false, false, false, false, false, false, false, false, false, false, true, false, false, false, false, false, false], kit_paired (map_at Z.c24 0 rfl rfl), rfl⟩
    · exact ⟨[false, false, false, false, false, false, false, false, false, false, false, false, false, false, false, false, false, false, false, false, false, false, false, false, false, true, false, false, false, false, false], kit_paired (map_at Z.c24 1 rfl rfl), rfl⟩
    · exact ⟨[false, false, false, false, false, false, false, false, false, false, false, false, false, false, false, false, false, false, false, false, false, false, false, false, false, false, true, false, false, false, false], kit_paired (map_at Z.c24 2 rfl rfl), rfl⟩
    · exact ⟨[false, false, false, false, false, false, false, false, false, false, false, false, false, false, false, false, false, false, false, false, false, false, false, false, false, false, false, true, false, false, false], kit_paired (map_at Z.c24 3 rfl rfl), rfl⟩
    · exact ⟨[false, false, false, false, false, false, false, false, false, false, false, false, false, false, false, false, false, false, false, false, false, false, false, false, false, false, false, false, true, false, false], kit_paired (map_at Z.c24 4 rfl rfl), rfl⟩
    · exact ⟨[false, false, false, false, false, false, false, false, false, false, false, false, false, false, false, false, false, false, false, false, false, false, false, false, false, false, false, false, false, true, false], kit_paired (map_at Z.c24 5 rfl rfl), rfl⟩
    · exact ⟨[false, false, false, false, false, false, false, false, false, false, false, false, false, false, false, false, false, false, false, false, false, false, false, false, false, false, false, false, false, false, true], kit_paired (map_at Z.c24 6 rfl rfl), rfl⟩
  have nn1 : ∀ C ∈ ([70, 89, 108, 127, 146, 165, 184, 203, 222, 241, 70, 89, 108, 127, 146, 165, 184, 203, 222, 241] : List Addr), PySem.W.findIn K (.ref C) "value" = some none := by
    intro C h
    have h : C ∈ ([70, 89, 108, 127, 146, 165, 184, 203, 222, 241] : List Addr) := by
      revert C
      decide
    simp only [List.mem_cons, List.not_mem_nil, or_false] at h
    rcases h with rfl | rfl | rfl | rfl | rfl | rfl | rfl | rfl | rfl | rfl
    · exact (map_at Z.no 0 rfl rfl : PySem.W.findIn K (.ref 70) "value" = some none)
    · exact (map_at Z.no 1 rfl rfl : PySem.W.findIn K (.ref 89) "value" = some none)
    · exact (map_at Z.no 2 rfl rfl : PySem.W.findIn K (.ref 108) "value" = some none)
    · exact (map_at Z.no 3 rfl rfl : PySem.W.findIn K (.ref 127) "value" = some none)
    · exact (map_at Z.no 4 rfl rfl : PySem.W.findIn K (.ref 146) "value" = some none)
    · exact (map_at Z.no 5 rfl rfl : PySem.W.findIn K (.ref 165) "value" = some none)
    · exact (map_at Z.no 6 rfl rfl : PySem.W.findIn K (.ref 184) "value" = some none)
    · exact (map_at Z.no 7 rfl rfl : PySem.W.findIn K (.ref 203) "value" = some none)
    · exact (map_at Z.no 8 rfl rfl : PySem.W.findIn K (.ref 222) "value" = some none)
    · exact (map_at Z.no 9 rfl rfl : PySem.W.findIn K (.ref 241) "value" = some none)
  have nn2 : ∀ C ∈ ([260, 279, 298, 317, 336, 355, 374, 393, 412, 260, 279, 298, 317, 336, 355, 374, 393, 412] : List Addr), PySem.W.findIn K (.ref C) "index" = some none := by
    intro C h
    have h : C ∈ ([260, 279, 298, 317, 336, 355, 374, 393, 412] : List Addr) := by
      revert C
      decide
    simp only [List.mem_cons, List.not_mem_nil, or_false] at h
    rcases h with rfl | rfl | rfl | rfl | rfl | rfl | rfl | rfl | rfl
    · exact (map_at Z.no 10 rfl rfl : PySem.W.findIn K (.ref 260) "index" = some none)
    · exact (map_at Z.no 11 rfl rfl : PySem.W.findIn K (.ref 279) "index" = some none)
    · exact (map_at Z.no 12 rfl rfl : PySem.W.findIn K (.ref 298) "index" = some none)
    · exact (map_at Z.no 13 rfl rfl : PySem.W.findIn K (.ref 317) "index" = some none)
    · exact (map_at Z.no 14 rfl rfl : PySem.W.findIn K (.ref 336) "index" = some none)
    · exact (map_at Z.no 15 rfl rfl : PySem.W.findIn K (.ref 355) "index" = some none)
    · exact (map_at Z.no 16 rfl rfl : PySem.W.findIn K (.ref 374) "index" = some none)
    · exact (map_at Z.no 17 rfl rfl : PySem.W.findIn K (.ref 393) "index" = some none)
    · exact (map_at Z.no 18 rfl rfl : PySem.W.findIn K (.ref 412) "index" = some none)
  have nn3 : ∀ C ∈ ([574, 593, 612, 574, 593, 612] : List Addr), PySem.W.findIn K (.ref C) "limit" = some none := by
    intro C h
    have h : C ∈ ([574, 593, 612] : List Addr) := by
      revert C
      decide
    simp only [List.mem_cons, List.not_mem_nil, or_false] at h
    rcases h with rfl | rfl | rfl
    · exact (map_at Z.no 23 rfl rfl : PySem.W.findIn K (.ref 574) "limit" = some none)
    · exact (map_at Z.no 24 rfl rfl : PySem.W.findIn K (.ref 593) "limit" = some none)
    · exact (map_at Z.no 25 rfl rfl : PySem.W.findIn K (.ref 612) "limit" = some none)
  have sub : ∀ C ∈ ([70, 89, 108, 127, 146, 165, 184, 203, 222, 241, 70, 89, 108, 127, 146, 165, 184, 203, 222, 241] : List Addr) ++ ([260, 279, 298, 317, 336, 355, 374, 393, 412, 260, 279, 298, 317, 336, 355, 374, 393, 412] : List Addr) ++ ([574, 593, 612, 574, 593, 612] : List Addr) ++ ([431, 431, 469, 469, 488, 488, 507, 507, 450, 450, 519, 531, 543, 555] : List Addr), C ∈ ([70, 89, 108, 127, 146, 165, 184, 203, 222, 241, 260, 279, 298, 317, 336, 355, 374, 393, 412, 431, 450, 469, 488, 507, 519, 531, 543, 555, 574, 593, 612] : List Addr) := by decide
  let R : RightK P w K mg base kusN cusN ([70, 89, 108, 127, 146, 165, 184, 203, 222, 241, 70, 89, 108, 127, 146, 165, 184, 203, 222, 241] : List Addr) ([260, 279, 298, 317, 336, 355, 374, 393, 412, 260, 279, 298, 317, 336, 355, 374, 393, 412] : List Addr) ([574, 593, 612, 574, 593, 612] : List Addr) ([431, 431, 469, 469, 488, 488, 507, 507, 450, 450, 519, 531, 543, 555] : List Addr) := {
    f_pull := 930, d_pull := d__law_pull, pull := ok_pull F__law_pull BL, m_pull := g__law_pull, k_pull := F__law_pull.kp, b_pull := (F__law_pull.binds (ps := ["_law_source_here", "_law_width"]) fun _ _ _ _ _ _ us hl => match us, hl with | [_, _], _ => rfl)
    f_values := 937, d_values := d__law_values, values := ok_law_values F__law_values e_NotALoad e_NotAHandler e_NotAWeb e_InvalidName e_InvalidText e_InvalidNumber e_InvalidRest e_InvalidChoice e_InvalidLine e_UnknownKind, m_values := g__law_values, k_values := F__law_values.kp, b_values := (F__law_values.binds (ps := ["_law_thing"]) fun _ _ _ _ _ _ us hl => match us, hl with | [_], _ => rfl)
    f_indexes := 944, d_indexes := d__law_indexes, indexes := ok_law_indexes F__law_indexes e_InvalidPairs e_InvalidKinds e_InvalidRows e_InvalidNames e_InvalidHandlers e_InvalidEntries e_InvalidIndexes e_InvalidTerms e_InvalidDeeds, m_indexes := g__law_indexes, k_indexes := F__law_indexes.kp, b_indexes := (F__law_indexes.binds (ps := ["_law_thing"]) fun _ _ _ _ _ _ us hl => match us, hl with | [_], _ => rfl)
    f_tops := 956, d_tops := d__law_tops, tops := ok_law_tops F__law_tops e_TooManyKinds e_TooManyStates e_TooManyRows, m_tops := g__law_tops, k_tops := F__law_tops.kp, b_tops := (F__law_tops.binds (ps := ["_law_thing"]) fun _ _ _ _ _ _ us hl => match us, hl with | [_], _ => rfl)
    f_kin := 970, d_kin := d__law_kin, kin := ok_kin F__law_kin BX OG g_ValueFault g_StateFault g_LimitFault, m_kin := g__law_kin, k_kin := F__law_kin.kp, b_kin := (F__law_kin.binds (ps := ["_law_e"]) fun _ _ _ _ _ _ us hl => match us, hl with | [_], _ => rfl)
    f_classes := 963, d_classes := d__law_classes, classes := ok_classes F__law_classes BX OG g_NotALoad g_NotAHandler g_NotAWeb g_InvalidName g_InvalidText g_InvalidNumber g_InvalidRest g_InvalidChoice g_InvalidLine g_UnknownKind g_InvalidPairs g_InvalidKinds g_InvalidRows g_InvalidNames g_InvalidHandlers g_InvalidEntries g_InvalidIndexes g_InvalidTerms g_InvalidDeeds g_Lacking g_Heeds g_NotLasting g_Meddling g_Refused g_Endless g_NotComparable g_NothingToUndo g_Busy g_TooManyKinds g_TooManyStates g_TooManyRows, m_classes := g__law_classes, k_classes := F__law_classes.kp, b_classes := (F__law_classes.binds (ps := ["_law_e"]) fun _ _ _ _ _ _ us hl => match us, hl with | [_], _ => rfl)
    f_others := 949, d_others := d__law_others, others := ok_others F__law_others ⟨b_repr⟩ e_Lacking e_NotLasting e_Meddling e_Refused e_Heeds e_Endless e_NotComparable e_NothingToUndo e_Busy, m_others := g__law_others, k_others := F__law_others.kp, b_others := (F__law_others.binds (ps := ["_law_low", "_law_high"]) fun _ _ _ _ _ _ us hl => match us, hl with | [_, _], _ => rfl)
    T := ⟨b_repr⟩, len_ := b_len, all_ := b_all, CLoad := 912, fLoad := 750, CXi := CX0, OkP := OkPairs, Srt := Ordered
    ok1 := ⟨by decide +kernel, by decide +kernel, by decide +kernel, by decide⟩
    srt1 := fun qs o => List.perm_singleton.mp o.perm
    M := mk, mLoad := g_Load, FI := FnR.mono' LI (by decide), px := fun _ _ _ => pass0
    tLoad := loadText [("a", 1)], shown := fun H a la => shownLoad hre.1 hre.2.1 LR (F_load_repr.binds (ps := ["self"]) fun _ _ _ _ _ _ us hl => match us, hl with | [_], _ => rfl) H a _ la (by decide) (by decide +kernel) (by decide +kernel) (by decide +kernel)
    mKINDS := mKINDS, mHANDLERS := mHANDLERS, mSTATES := mSTATES, mTERMS := mTERMS, mROWS := mROWS
    len1 := rfl, len2 := rfl, len3 := rfl, len4 := rfl
    ox := fun C h => oxAll C (sub C h)
    no1 := nn1, no2 := nn2, no3 := nn3
    kin12 := fun C h => kit_paired (rep_all Z.kV C (by revert C; decide))
    kin4 := fun C h => kit_paired (rep_all Z.kL C (by revert C; decide))
    kin3 := fun C h => kit_paired (rep_all Z.kA C (by revert C; decide))
    cls1 := fun C h => clAll C (sub C h) }
  have FR := ok_right F__law_right R
  have FS := ok_source (P := P) (w := w) (base := base) F__law_source BL
  exact ok_law F_law { f_source := 923, d_source := d__law_source, source := FS, m_source := g__law_source, k_source := F__law_source.kp, b_source := (F__law_source.binds (ps := ["_law_cells", "_law_turn"]) fun _ _ _ _ _ _ us hl => match us, hl with | [_, _], _ => rfl), f_right := 975, d_right := d__law_right, right := FR, m_right := g__law_right, k_right := F__law_right.kp, b_right := (F__law_right.binds (ps := ["_law_source_here"]) fun _ _ _ _ _ _ us hl => match us, hl with | [_], _ => rfl), len_ := b_len, all_ := b_all, max_ := b_max, min_ := b_min, range_ := b_range }
end My
set_option Elab.async false
set_option maxRecDepth 100000
set_option maxHeartbeats 0
namespace My
open PySem PySem.Spec PyProof.Rows L2
/-- the law is called over a head by facts -/
theorem walkGE {l : PySem.W.OpenLaw} {n k : Nat} {q : Program} {loose : List Str} {XP : (Str → Option Value) → Heap → Prop} {YP : World → Heap → Prop} {d : DefRec} {x : Str} (hn : l.most = some n) (hn2 : n ≤ sizeLine) (hdf : d.params.defaults = []) (hr : Room k callerA)
    (F : ∀ (w : World) (mg : Str → Option Value) (fa : Addr) (h : Heap), YP w h → h.Ns mainGlobals mg → mg d.name = some (.ref fa) →
      ∃ (K : PySem.W.Frag) (fd : FuncData) (sp : Sp), K.In h ∧ (∀ (s : Shared) (u : Value), BindsTo s fd ⟨[u], []⟩ [(x, u)]) ∧
        (∀ (H : Hp) (a : Addr) (ns : List Int), ns.length ≤ n → Only H → SqL K H a (ns.map V.int) → sp [.ref a] H (fun v _ => v = .bl true) fun _ _ _ => False) ∧
        ∀ base : Heap, K.In base → base.Ns mainGlobals mg → FnG l.prog w K mg base CX0 k fa fd [x] sp) :
    PySem.W.WalkO q loose XP YP l.row.toRowW d [] (fun f vs => PySem.call f vs) := by
  refine Att.attach_call hn hdf fun w s₀ s₁ mg mb fa o pm cd doc a vs ns G Y ho hd hcd hmg hobj hints hlen hg => ?_
  obtain ⟨K, fd, sp, KX, hb, hsp, hF⟩ := F w mg fa _ Y G.T.g hmg
  exact lawCallG KX G.T.g G.T.b G.T.builtins G.T.nolimit hg hobj hints (Nat.le_trans hlen hn2) hr hF hb fun H hO hS => hsp H a ns hlen hO hS
theorem intB_ok {K : PySem.W.Frag} {x : Str} {i : Int} (h : intB K x i = true) : ∃ t, PySem.W.nsIn K mainGlobals x = some (some (.int i t)) := by
  unfold intB at h
  split at h
  · rename_i j t e
    have z := of_decide_eq_true h
    subst z
    exact ⟨t, e⟩
  · cases h
theorem strB_ok {K : PySem.W.Frag} {x z : Str} (h : strB K x z = true) : ∃ t, PySem.W.nsIn K mainGlobals x = some (some (.str z t)) := by
  unfold strB at h
  split at h
  · rename_i j t e
    have y := of_decide_eq_true h
    subst y
    exact ⟨t, e⟩
  · cases h
theorem fnA_ok {K : PySem.W.Frag} {a : Addr} {x q : Str} {st : Stmt} (e : fnA K a = fnV x q st) (c : (cdA K a q && PySem.W.keepIn K (.ref a)) = true) : ∃ fd, Fun K x q st a fd := by
  obtain ⟨c, kp⟩ := Bool.and_eq_true_iff.mp c
  unfold fnA at e
  unfold cdA at c
  split at e
  · rename_i oc od fd osl hk
    rw [hk] at c
    obtain ⟨n1, n2, n3, n4, n5, n6, n7, n8, n9, n10, n11, n12, n13, n14, n15⟩ := fd
    simp only [Option.some.injEq, Prod.mk.injEq] at e
    obtain ⟨h1, h2, h3, h4, h5, h6, h7, h8, h9⟩ := e
    subst h1 h2 h3 h4 h5 h6 h7 h8 h9
    exact ⟨_, fun_mk hk c kp⟩
  · cases e
theorem rep1 {α : Type} {xs : List α} {n : Nat} {e x : α} (h : xs = List.replicate n e) (i : Nat) (hi : i < n) (hx : xs[i]? = some x) : x = e := by
  rw [h, List.getElem?_replicate, if_pos hi] at hx
  exact (Option.some.inj hx).symm
theorem facts_of {K : PySem.W.Frag} (e : obsK K = valK) : Facts K := by
  have h_ns : ([(PySem.Str.ofString "ValueFault"), (PySem.Str.ofString "StateFault"), (PySem.Str.ofString "LimitFault"), (PySem.Str.ofString "NotALoad"), (PySem.Str.ofString "NotAHandler"), (PySem.Str.ofString "NotAWeb"), (PySem.Str.ofString "InvalidName"), (PySem.Str.ofString "InvalidText"), (PySem.Str.ofString "InvalidNumber"), (PySem.Str.ofString "InvalidRest"), (PySem.Str.ofString "InvalidChoice"), (PySem.Str.ofString "InvalidLine"), (PySem.Str.ofString "UnknownKind"), (PySem.Str.ofString "InvalidPairs"), (PySem.Str.ofString "InvalidKinds"), (PySem.Str.ofString "InvalidRows"), (PySem.Str.ofString "InvalidNames"), (PySem.Str.ofString "InvalidHandlers"), (PySem.Str.ofString "InvalidEntries"), (PySem.Str.ofString "InvalidIndexes"), (PySem.Str.ofString "InvalidTerms"), (PySem.Str.ofString "InvalidDeeds"), (PySem.Str.ofString "Lacking"), (PySem.Str.ofString "Heeds"), (PySem.Str.ofString "NotLasting"), (PySem.Str.ofString "Meddling"), (PySem.Str.ofString "Refused"), (PySem.Str.ofString "Endless"), (PySem.Str.ofString "NotComparable"), (PySem.Str.ofString "NothingToUndo"), (PySem.Str.ofString "Busy"), (PySem.Str.ofString "TooManyKinds"), (PySem.Str.ofString "TooManyStates"), (PySem.Str.ofString "TooManyRows"), (PySem.Str.ofString "figures_of"), (PySem.Str.ofString "is_number"), (PySem.Str.ofString "is_at_least"), (PySem.Str.ofString "is_name"), (PySem.Str.ofString "plain_name"), (PySem.Str.ofString "is_pair"), (PySem.Str.ofString "wrong_pair_at"), (PySem.Str.ofString "by_name"), (PySem.Str.ofString "plain_pairs"), (PySem.Str.ofString "Load"), (PySem.Str.ofString "_law_source"), (PySem.Str.ofString "_law_pull"), (PySem.Str.ofString "_law_values"), (PySem.Str.ofString "_law_indexes"), (PySem.Str.ofString "_law_others"), (PySem.Str.ofString "_law_tops"), (PySem.Str.ofString "_law_classes"), (PySem.Str.ofString "_law_kin"), (PySem.Str.ofString "_law_right"), (PySem.Str.ofString "law")] : List Str).map (fun x => PySem.W.nsIn K mainGlobals x) = [some (some (Value.ref 24)), some (some (Value.ref 37)), some (some (Value.ref 50)), some (some (Value.ref 70)), some (some (Value.ref 89)), some (some (Value.ref 108)), some (some (Value.ref 127)), some (some (Value.ref 146)), some (some (Value.ref 165)), some (some (Value.ref 184)), some (some (Value.ref 203)), some (some (Value.ref 222)), some (some (Value.ref 241)), some (some (Value.ref 260)), some (some (Value.ref 279)), some (some (Value.ref 298)), some (some (Value.ref 317)), some (some (Value.ref 336)), some (some (Value.ref 355)), some (some (Value.ref 374)), some (some (Value.ref 393)), some (some (Value.ref 412)), some (some (Value.ref 431)), some (some (Value.ref 450)), some (some (Value.ref 469)), some (some (Value.ref 488)), some (some (Value.ref 507)), some (some (Value.ref 519)), some (some (Value.ref 531)), some (some (Value.ref 543)), some (some (Value.ref 555)), some (some (Value.ref 574)), some (some (Value.ref 593)), some (some (Value.ref 612)), some (some (Value.ref 621)), some (some (Value.ref 633)), some (some (Value.ref 640)), some (some (Value.ref 645)), some (some (Value.ref 652)), some (some (Value.ref 659)), some (some (Value.ref 666)), some (some (Value.ref 678)), some (some (Value.ref 683)), some (some (Value.ref 912)), some (some (Value.ref 923)), some (some (Value.ref 930)), some (some (Value.ref 937)), some (some (Value.ref 944)), some (some (Value.ref 949)), some (some (Value.ref 956)), some (some (Value.ref 963)), some (some (Value.ref 970)), some (some (Value.ref 975)), some (some (Value.ref 980))] := congrArg (fun z => z.1) e
  have h_nb : ([(PySem.Str.ofString "isinstance"), (PySem.Str.ofString "ValueError"), (PySem.Str.ofString "LookupError"), (PySem.Str.ofString "ArithmeticError"), (PySem.Str.ofString "repr"), (PySem.Str.ofString "len"), (PySem.Str.ofString "all"), (PySem.Str.ofString "int"), (PySem.Str.ofString "abs"), (PySem.Str.ofString "max"), (PySem.Str.ofString "min"), (PySem.Str.ofString "range"), (PySem.Str.ofString "bool"), (PySem.Str.ofString "str"), (PySem.Str.ofString "tuple"), (PySem.Str.ofString "sorted"), (PySem.Str.ofString "enumerate"), (PySem.Str.ofString "dict"), (PySem.Str.ofString "sum")] : List Str).map (fun x => PySem.W.nsIn K mainGlobals x) = List.replicate 19 (some none : Option (Option Value)) := congrArg (fun z => z.2.1) e
  have h_oxV : ([70, 89, 108, 127, 146, 165, 184, 203, 222, 241, 260, 279, 298, 317, 336, 355, 374, 393, 412] : List Addr).map (oxT K "ValueError.__new__" (bmOf "ValueError")) = List.replicate 19 oxE := congrArg (fun z => z.2.2.1) e
  have h_oxL : ([431, 450, 469, 488, 507, 519, 531, 543, 555] : List Addr).map (oxT K "LookupError.__new__" (bmOf "LookupError")) = List.replicate 9 oxE := congrArg (fun z => z.2.2.2.1) e
  have h_oxA : ([574, 593, 612] : List Addr).map (oxT K "ArithmeticError.__new__" (bmOf "ArithmeticError")) = List.replicate 3 oxE := congrArg (fun z => z.2.2.2.2.1) e
  have h_fi : ([70, 89, 108, 127, 146, 165, 184, 203, 222, 241, 260, 279, 298, 317, 336, 355, 374, 393, 412, 431, 450, 469, 488, 507, 574, 593, 612] : List Addr).map (fun C => PySem.W.findIn K (.ref C) "__init__") = [some (some (Value.ref 67)), some (some (Value.ref 86)), some (some (Value.ref 105)), some (some (Value.ref 124)), some (some (Value.ref 143)), some (some (Value.ref 162)), some (some (Value.ref 181)), some (some (Value.ref 200)), some (some (Value.ref 219)), some (some (Value.ref 238)), some (some (Value.ref 257)), some (some (Value.ref 276)), some (some (Value.ref 295)), some (some (Value.ref 314)), some (some (Value.ref 333)), some (some (Value.ref 352)), some (some (Value.ref 371)), some (some (Value.ref 390)), some (some (Value.ref 409)), some (some (Value.ref 428)), some (some (Value.ref 447)), some (some (Value.ref 466)), some (some (Value.ref 485)), some (some (Value.ref 504)), some (some (Value.ref 571)), some (some (Value.ref 590)), some (some (Value.ref 609))] := congrArg (fun z => z.2.2.2.2.2.1) e
  have h_ty : ([67, 86, 105, 124, 143, 162, 181, 200, 219, 238, 257, 276, 295, 314, 333, 352, 371, 390, 409, 428, 447, 466, 485, 504, 571, 590, 609] : List Addr).map (fun C => PySem.W.typeIn K (.ref C)) = List.replicate 27 (some (Value.type "function")) := congrArg (fun z => z.2.2.2.2.2.2.1) e
  have h_no : ([(70, (PySem.Str.ofString "value")), (89, (PySem.Str.ofString "value")), (108, (PySem.Str.ofString "value")), (127, (PySem.Str.ofString "value")), (146, (PySem.Str.ofString "value")), (165, (PySem.Str.ofString "value")), (184, (PySem.Str.ofString "value")), (203, (PySem.Str.ofString "value")), (222, (PySem.Str.ofString "value")), (241, (PySem.Str.ofString "value")), (260, (PySem.Str.ofString "index")), (279, (PySem.Str.ofString "index")), (298, (PySem.Str.ofString "index")), (317, (PySem.Str.ofString "index")), (336, (PySem.Str.ofString "index")), (355, (PySem.Str.ofString "index")), (374, (PySem.Str.ofString "index")), (393, (PySem.Str.ofString "index")), (412, (PySem.Str.ofString "index")), (431, (PySem.Str.ofString "name")), (469, (PySem.Str.ofString "rest")), (488, (PySem.Str.ofString "load")), (507, (PySem.Str.ofString "load")), (574, (PySem.Str.ofString "limit")), (593, (PySem.Str.ofString "limit")), (612, (PySem.Str.ofString "limit")), (450, (PySem.Str.ofString "state")), (450, (PySem.Str.ofString "one")), (450, (PySem.Str.ofString "other")), (912, (PySem.Str.ofString "_pairs")), (912, (PySem.Str.ofString "_counts"))] : List (Addr × Str)).map (fun p => PySem.W.findIn K (.ref p.1) p.2) = List.replicate 31 (some none : Option (Option Value)) := congrArg (fun z => z.2.2.2.2.2.2.2.1) e
  have h_e0 : ([519, 531, 543, 555] : List Addr).map (fun C => PySem.W.excIn K C (bmOf "LookupError") "LookupError.__new__") = List.replicate 4 true := congrArg (fun z => z.2.2.2.2.2.2.2.2.1) e
  have h_ld : (PySem.W.makesIn K 912, PySem.W.plainGet K 912 Str.empty, PySem.W.hasDictIn K 912, PySem.W.plainOver K 912, PySem.W.keepIn K (.ref 912), PySem.W.isFn K (.ref 750)) = (true, true, true, true, true, true) := congrArg (fun z => z.2.2.2.2.2.2.2.2.2.1) e
  have h_lf : (PySem.W.findIn K (.ref 912) "__setattr__", PySem.W.findIn K (.ref 912) "__init__", PySem.W.findIn K (.ref 912) "__repr__", PySem.W.findIn K (.ref 912) "size", PySem.W.typeIn K (.ref 909)) = (some (some (Value.builtin "object.__setattr__")), some (some (Value.ref 750)), some (some (Value.ref 909)), some (some (Value.ref 790)), some (Value.type "function")) := congrArg (fun z => z.2.2.2.2.2.2.2.2.2.2.1) e
  have h_lq : (PySem.W.recIn K 790 "property").map (·.head?) = some (some (Value.ref 789)) := congrArg (fun z => z.2.2.2.2.2.2.2.2.2.2.2.1) e
  have h_kV : ([70, 89, 108, 127, 146, 165, 184, 203, 222, 241, 260, 279, 298, 317, 336, 355, 374, 393, 412] : List Addr).map (fun C => kusN.map (PySem.W.kitOne K (.ref C))) = List.replicate 19 [some true, some false, some false, some true, some false, some false] := congrArg (fun z => z.2.2.2.2.2.2.2.2.2.2.2.2.1) e
  have h_kL : ([431, 450, 469, 488, 507, 519, 531, 543, 555] : List Addr).map (fun C => kusN.map (PySem.W.kitOne K (.ref C))) = List.replicate 9 [some false, some true, some false, some false, some true, some false] := congrArg (fun z => z.2.2.2.2.2.2.2.2.2.2.2.2.2.1) e
  have h_kA : ([574, 593, 612] : List Addr).map (fun C => kusN.map (PySem.W.kitOne K (.ref C))) = List.replicate 3 [some false, some false, some true, some false, some false, some true] := congrArg (fun z => z.2.2.2.2.2.2.2.2.2.2.2.2.2.2.1) e
  have h_c0 : ([70, 89, 108, 127, 146, 165, 184, 203] : List Addr).map (fun C => cusN.map (PySem.W.kitOne K (.ref C))) = [[some true, some false, some false, some false, some false, some false, some false, some false, some false, some false, some false, some false, some false, some false, some false, some false, some false, some false, some false, some false, some false, some false, some false, some false, some false, some false, some false, some false, some false, some false, some false], [some false, some true, some false, some false, some false, some false, some false, some false, some false, some false, some false, some false, some false, some false, some false, some false, some false, some false, some false, some false, some false, some false, some false, some false, some false, some false, some false, some false, some false, some false, some false], [some false, some false, some true, some false, some false, some false, some false, some false, some false, some false, some false, some false, some false, some false, some false, some false, some false, some false, some false, some false, some false, some false, some false, some false, some false, some false, some false, some false, some false, some false, some false], [some false, some false, some false, some true, some false, some false, some false, some false, some false, some false, some false, some false, some false, some false, some false, some false, some false, some false, some false, some false, some false, some false, some false, some false, some false, some false, some false, some false, some false, some false, some false], [some false, some false, some false, some false, some true, some false, some false, some false, some false, some false, some false, some false, some false, some false, some false, some false, some false, some false, some false, some false, some false, some false, some false, some false, some false, some false, some false, some false, some false, some false, some false], [some false, some false, some false, some false, some false, some true, some false, some false, some false, some false, some false, some false, some false, some false, some false, some false, some false, some false, some false, some false, some false, some false, some false, some false, some false, some false, some false, some false, some false, some false, some false], [some false, some false, some false, some false, some false, some false, some true, some false, some false, some false, some false, some false, some false, some false, some false, some false, some false, some false, some false, some false, some false, some false, some false, some false, some false, some false, some false, some false, some false, some false, some false], [some false, some false, some false, some false, some false, some false, some false, some true, some false, some false, some false, some false, some false, some false, some false, some false, some false, some false, some false, some false, some false, some false, some false, some false, some false, some false, some false, some false, some false, some false, some false]] := congrArg (fun z => z.2.2.2.2.2.2.2.2.2.2.2.2.2.2.2.1) e
  have h_c8 : ([222, 241, 260, 279, 298, 317, 336, 355] : List Addr).map (fun C => cusN.map (PySem.W.kitOne K (.ref C))) = [[some false, some false, some false, some false, some false, some false, some false, some false, some true, some false, some false, some false, some false, some false, some false, some false, some false, some false, some false, some false, some false, some false, some false, some false, some false, some false, some false, some false, some false, some false, some false], [some false, some false, some false, some false, some false, some false, some false, some false, some false, some true, some false, some false, some false, some false, some false, some false, some false, some false, some false, some false, some false, some false, some false, some false, some false, some false, some false, some false, some false, some false, some false], [some false, some false, some false, some false, some false, some false, some false, some false, some false, some false, some true, some false, some false, some false, some false, some false, some false, some false, some false, some false, some false, some false, some false, some false, some false, some false, some false, some false, some false, some false, some false], [some false, some false, some false, some false, some false, some false, some false, some false, some false, some false, some false, some true, some false, some false, some false, some false, some false, some false, some false, some false, some false, some false, some false, some false, some false, some false, some false, some false, some false, some false, some false], [some false, some false, some false, some false, some false, some false, some false, some false, some false, some false, some false, some false, some true, some false, some false, some false, some false, some false, some false, some false, some false, some false, some false, some false, some false, some false, some false, some false, some false, some false, some false], [some false, some false, some false, some false, some false, some false, some false, some false, some false, some false, some false, some false, some false, some true, some false, some false, some false, some false, some false, some false, some false, some false, some false, some false, some false, some false, some false, some false, some false, some false, some false], [some false, some false, some false, some false, some false, some false, some false, some false, some false, some false, some false, some false, some false, some false, some true, some false, some false, some false, some false, some false, some false, some false, some false, some false, some false, some false, some false, some false, some false, some false, some false], [some false, some false, some false, some false, some false, some false, some false, some false, some false, some false, some false, some false, some false, some false, some false, some true, some false, some false, some false, some false, some false, some false, some false, some false, some false, some false, some false, some false, some false, some false, some false]] := congrArg (fun z => z.2.2.2.2.2.2.2.2.2.2.2.2.2.2.2.2.1) e
  have h_c16 : ([374, 393, 412, 431, 450, 469, 488, 507] : List Addr).map (fun C => cusN.map (PySem.W.kitOne K (.ref C))) = [[some false, some false, some false, some false, some false, some false, some false, some false, some false, some false, some false, some false, some false, some false, some false, some false, some true, some false, some false, some false, some false, some false, some false, some false, some false, some false, some false, some false, some false, some false, some false], [some false, some false, some false, some false, some false, some false, some false, some false, some false, some false, some false, some false, some false, some false, some false, some false, some false, some true, some false, some false, some false, some false, some false, some false, some false, some false, some false, some false, some false, some false, some false], [some false, some false, some false, some false, some false, some false, some false, some false, some false, some false, some false, some false, some false, some false, some false, some false, some false, some false, some true, some false, some false, some false, some false, some false, some false, some false, some false, some false, some false, some false, some false], [some false, some false, some false, some false, some false, some false, some false, some false, some false, some false, some false, some false, some false, some false, some false, some false, some false, some false, some false, some true, some false, some false, some false, some false, some false, some false, some false, some false, some false, some false, some false], [some false, some false, some false, some false, some false, some false, some false, some false, some false, some false, some false, some false, some false, some false, some false, some false, some false, some false, some false, some false, some true, some false, some false, some false, some false, some false, some false, some false, some false, some false, some false], [some false, some false, some false, some false, some false, some false, some false, some false, some false, some false, some false, some false, some false, some false, some false, some false, some false, some false, some false, some false, some false, some true, some false, some false, some false, some false, some false, some false, some false, some false, some false], [some false, some false, some false, some false, some false, some false, some false, some false, some false, some false, some false, some false, some false, some false, some false, some false, some false, some false, some false, some false, some false, some false, some true, some false, some false, some false, some false, some false, some false, some false, some false], [some false, some false, some false, some false, some false, some false, some false, some false, some false, some false, some false, some false, some false, some false, some false, some false, some false, some false, some false, some false, some false, some false, some false, some true, some false, some false, some false, some false, some false, some false, some false]] := congrArg (fun z => z.2.2.2.2.2.2.2.2.2.2.2.2.2.2.2.2.2.1) e
  have h_c24 : ([519, 531, 543, 555, 574, 593, 612] : List Addr).map (fun C => cusN.map (PySem.W.kitOne K (.ref C))) = [[some false, some false, some false, some false, some false, some false, some false, some false, some false, some false, some false, some false, some false, some false, some false, some false, some false, some false, some false, some false, some false, some false, some false, some false, some true, some false, some false, some false, some false, some false, some false], [some false, some false, some false, some false, some false, some false, some false, some false, some false, some false, some false, some false, some false, some false, some false, some false, some false, some false, some false, some false, some false, some false, some false, some false, some false, some true, some false, some false, some false, some false, some false], [some false, some false, some false, some false, some false, some false, some false, some false, some false, some false, some false, some false, some false, some false, some false, some false, some false, some false, some false, some false, some false, some false, some false, some false, some false, some false, some true, some false, some false, some false, some false], [some false, some false, some false, some false, some false, some false, some false, some false, some false, some false, some false, some false, some false, some false, some false, some false, some false, some false, some false, some false, some false, some false, some false, some false, some false, some false, some false, some true, some false, some false, some false], [some false, some false, some false, some false, some false, some false, some false, some false, some false, some false, some false, some false, some false, some false, some false, some false, some false, some false, some false, some false, some false, some false, some false, some false, some false, some false, some false, some false, some true, some false, some false], [some false, some false, some false, some false, some false, some false, some false, some false, some false, some false, some false, some false, some false, some false, some false, some false, some false, some false, some false, some false, some false, some false, some false, some false, some false, some false, some false, some false, some false, some true, some false], [some false, some false, some false, some false, some false, some false, some false, some false, some false, some false, some false, some false, some false, some false, some false, some false, some false, some false, some false, some false, some false, some false, some false, some false, some false, some false, some false, some false, some false, some false, some true]] := congrArg (fun z => z.2.2.2.2.2.2.2.2.2.2.2.2.2.2.2.2.2.2.1) e
  have h_lp : (PySem.W.specialIn K (.ref 790) "__get__", PySem.W.takesIn K (.ref 790)) = (some (some (Value.builtin "property.__get__")), some true) := congrArg (fun z => z.2.2.2.2.2.2.2.2.2.2.2.2.2.2.2.2.2.2.2.1) e
  have h_og : (PySem.W.specialIn K (.builtin "object.__class__") "__get__", PySem.W.takesIn K (.builtin "object.__class__")) = (some (some (Value.builtin "getset_descriptor.__get__")), some true) := congrArg (fun z => z.2.2.2.2.2.2.2.2.2.2.2.2.2.2.2.2.2.2.2.2.1) e
  have h_ints : [intB K (PySem.Str.ofString "MOST_KINDS") 8, intB K (PySem.Str.ofString "MOST_HANDLERS") 5, intB K (PySem.Str.ofString "MOST_STATES") 600, intB K (PySem.Str.ofString "MOST_TERMS") 6, intB K (PySem.Str.ofString "MOST_ROWS") 20000, intB K (PySem.Str.ofString "MOST_SIGNS") 8] = List.replicate 6 true := congrArg (fun z => z.2.2.2.2.2.2.2.2.2.2.2.2.2.2.2.2.2.2.2.2.2.1) e
  have h_strs : [strB K (PySem.Str.ofString "LETTERS") (PySem.Str.ofString "abcdefghijklmnopqrstuvwxyz"), strB K (PySem.Str.ofString "SIGNS") (PySem.Str.ofString "abcdefghijklmnopqrstuvwxyz0123456789")] = List.replicate 2 true := congrArg (fun z => z.2.2.2.2.2.2.2.2.2.2.2.2.2.2.2.2.2.2.2.2.2.2.1) e
  have h_cds : [cdA K 621 (PySem.Str.ofString "figures_of") && PySem.W.keepIn K (.ref 621), cdA K 633 (PySem.Str.ofString "is_number") && PySem.W.keepIn K (.ref 633), cdA K 640 (PySem.Str.ofString "is_at_least") && PySem.W.keepIn K (.ref 640), cdA K 645 (PySem.Str.ofString "is_name") && PySem.W.keepIn K (.ref 645), cdA K 652 (PySem.Str.ofString "plain_name") && PySem.W.keepIn K (.ref 652), cdA K 659 (PySem.Str.ofString "is_pair") && PySem.W.keepIn K (.ref 659), cdA K 666 (PySem.Str.ofString "wrong_pair_at") && PySem.W.keepIn K (.ref 666), cdA K 678 (PySem.Str.ofString "by_name") && PySem.W.keepIn K (.ref 678), cdA K 683 (PySem.Str.ofString "plain_pairs") && PySem.W.keepIn K (.ref 683), cdA K 923 (PySem.Str.ofString "_law_source") && PySem.W.keepIn K (.ref 923), cdA K 930 (PySem.Str.ofString "_law_pull") && PySem.W.keepIn K (.ref 930), cdA K 937 (PySem.Str.ofString "_law_values") && PySem.W.keepIn K (.ref 937), cdA K 944 (PySem.Str.ofString "_law_indexes") && PySem.W.keepIn K (.ref 944), cdA K 949 (PySem.Str.ofString "_law_others") && PySem.W.keepIn K (.ref 949), cdA K 956 (PySem.Str.ofString "_law_tops") && PySem.W.keepIn K (.ref 956), cdA K 963 (PySem.Str.ofString "_law_classes") && PySem.W.keepIn K (.ref 963), cdA K 970 (PySem.Str.ofString "_law_kin") && PySem.W.keepIn K (.ref 970), cdA K 975 (PySem.Str.ofString "_law_right") && PySem.W.keepIn K (.ref 975), cdA K 980 (PySem.Str.ofString "law") && PySem.W.keepIn K (.ref 980), cdA K 67 (PySem.Str.ofString "NotALoad.__init__") && PySem.W.keepIn K (.ref 67), cdA K 86 (PySem.Str.ofString "NotAHandler.__init__") && PySem.W.keepIn K (.ref 86), cdA K 105 (PySem.Str.ofString "NotAWeb.__init__") && PySem.W.keepIn K (.ref 105), cdA K 124 (PySem.Str.ofString "InvalidName.__init__") && PySem.W.keepIn K (.ref 124), cdA K 143 (PySem.Str.ofString "InvalidText.__init__") && PySem.W.keepIn K (.ref 143), cdA K 162 (PySem.Str.ofString "InvalidNumber.__init__") && PySem.W.keepIn K (.ref 162), cdA K 181 (PySem.Str.ofString "InvalidRest.__init__") && PySem.W.keepIn K (.ref 181), cdA K 200 (PySem.Str.ofString "InvalidChoice.__init__") && PySem.W.keepIn K (.ref 200), cdA K 219 (PySem.Str.ofString "InvalidLine.__init__") && PySem.W.keepIn K (.ref 219), cdA K 238 (PySem.Str.ofString "UnknownKind.__init__") && PySem.W.keepIn K (.ref 238), cdA K 257 (PySem.Str.ofString "InvalidPairs.__init__") && PySem.W.keepIn K (.ref 257), cdA K 276 (PySem.Str.ofString "InvalidKinds.__init__") && PySem.W.keepIn K (.ref 276), cdA K 295 (PySem.Str.ofString "InvalidRows.__init__") && PySem.W.keepIn K (.ref 295), cdA K 314 (PySem.Str.ofString "InvalidNames.__init__") && PySem.W.keepIn K (.ref 314), cdA K 333 (PySem.Str.ofString "InvalidHandlers.__init__") && PySem.W.keepIn K (.ref 333), cdA K 352 (PySem.Str.ofString "InvalidEntries.__init__") && PySem.W.keepIn K (.ref 352), cdA K 371 (PySem.Str.ofString "InvalidIndexes.__init__") && PySem.W.keepIn K (.ref 371), cdA K 390 (PySem.Str.ofString "InvalidTerms.__init__") && PySem.W.keepIn K (.ref 390), cdA K 409 (PySem.Str.ofString "InvalidDeeds.__init__") && PySem.W.keepIn K (.ref 409), cdA K 428 (PySem.Str.ofString "Lacking.__init__") && PySem.W.keepIn K (.ref 428), cdA K 447 (PySem.Str.ofString "Heeds.__init__") && PySem.W.keepIn K (.ref 447), cdA K 466 (PySem.Str.ofString "NotLasting.__init__") && PySem.W.keepIn K (.ref 466), cdA K 485 (PySem.Str.ofString "Meddling.__init__") && PySem.W.keepIn K (.ref 485), cdA K 504 (PySem.Str.ofString "Refused.__init__") && PySem.W.keepIn K (.ref 504), cdA K 571 (PySem.Str.ofString "TooManyKinds.__init__") && PySem.W.keepIn K (.ref 571), cdA K 590 (PySem.Str.ofString "TooManyStates.__init__") && PySem.W.keepIn K (.ref 590), cdA K 609 (PySem.Str.ofString "TooManyRows.__init__") && PySem.W.keepIn K (.ref 609), cdA K 750 (PySem.Str.ofString "Load.__init__") && PySem.W.keepIn K (.ref 750), cdA K 909 (PySem.Str.ofString "Load.__repr__") && PySem.W.keepIn K (.ref 909), cdA K 789 (PySem.Str.ofString "Load.size") && PySem.W.keepIn K (.ref 789)] = List.replicate 49 true := congrArg (fun z => z.2.2.2.2.2.2.2.2.2.2.2.2.2.2.2.2.2.2.2.2.2.2.2.1) e
  have h_fns : ([621, 633, 640, 645, 652, 659, 666, 678, 683, 923, 930, 937, 944, 949, 956, 963, 970, 975, 980, 67, 86, 105, 124, 143, 162, 181, 200, 219, 238, 257, 276, 295, 314, 333, 352, 371, 390, 409, 428, 447, 466, 485, 504, 571, 590, 609, 750, 909, 789] : List Addr).map (fnA K) = [fnV (PySem.Str.ofString "figures_of") (PySem.Str.ofString "figures_of") sFig, fnV (PySem.Str.ofString "is_number") (PySem.Str.ofString "is_number") sIsNumber, fnV (PySem.Str.ofString "is_at_least") (PySem.Str.ofString "is_at_least") sIsAtLeast, fnV (PySem.Str.ofString "is_name") (PySem.Str.ofString "is_name") sIsName, fnV (PySem.Str.ofString "plain_name") (PySem.Str.ofString "plain_name") sPlainName, fnV (PySem.Str.ofString "is_pair") (PySem.Str.ofString "is_pair") sIsPair, fnV (PySem.Str.ofString "wrong_pair_at") (PySem.Str.ofString "wrong_pair_at") sWrong, fnV (PySem.Str.ofString "by_name") (PySem.Str.ofString "by_name") sByName, fnV (PySem.Str.ofString "plain_pairs") (PySem.Str.ofString "plain_pairs") sPlainPairs, fnV (PySem.Str.ofString "_law_source") (PySem.Str.ofString "_law_source") sSource, fnV (PySem.Str.ofString "_law_pull") (PySem.Str.ofString "_law_pull") sPull, fnV (PySem.Str.ofString "_law_values") (PySem.Str.ofString "_law_values") s_law_values, fnV (PySem.Str.ofString "_law_indexes") (PySem.Str.ofString "_law_indexes") s_law_indexes, fnV (PySem.Str.ofString "_law_others") (PySem.Str.ofString "_law_others") sOthers, fnV (PySem.Str.ofString "_law_tops") (PySem.Str.ofString "_law_tops") s_law_tops, fnV (PySem.Str.ofString "_law_classes") (PySem.Str.ofString "_law_classes") sClasses, fnV (PySem.Str.ofString "_law_kin") (PySem.Str.ofString "_law_kin") sKin, fnV (PySem.Str.ofString "_law_right") (PySem.Str.ofString "_law_right") sRight, fnV (PySem.Str.ofString "law") (PySem.Str.ofString "law") sLaw, fnV (PySem.Str.ofString "__init__") (PySem.Str.ofString "NotALoad.__init__") sI4, fnV (PySem.Str.ofString "__init__") (PySem.Str.ofString "NotAHandler.__init__") sI5, fnV (PySem.Str.ofString "__init__") (PySem.Str.ofString "NotAWeb.__init__") sI6, fnV (PySem.Str.ofString "__init__") (PySem.Str.ofString "InvalidName.__init__") sI7, fnV (PySem.Str.ofString "__init__") (PySem.Str.ofString "InvalidText.__init__") sI8, fnV (PySem.Str.ofString "__init__") (PySem.Str.ofString "InvalidNumber.__init__") sI9, fnV (PySem.Str.ofString "__init__") (PySem.Str.ofString "InvalidRest.__init__") sI10, fnV (PySem.Str.ofString "__init__") (PySem.Str.ofString "InvalidChoice.__init__") sI11, fnV (PySem.Str.ofString "__init__") (PySem.Str.ofString "InvalidLine.__init__") sI12, fnV (PySem.Str.ofString "__init__") (PySem.Str.ofString "UnknownKind.__init__") sI13, fnV (PySem.Str.ofString "__init__") (PySem.Str.ofString "InvalidPairs.__init__") sI14, fnV (PySem.Str.ofString "__init__") (PySem.Str.ofString "InvalidKinds.__init__") sI15, fnV (PySem.Str.ofString "__init__") (PySem.Str.ofString "InvalidRows.__init__") sI16, fnV (PySem.Str.ofString "__init__") (PySem.Str.ofString "InvalidNames.__init__") sI17, fnV (PySem.Str.ofString "__init__") (PySem.Str.ofString "InvalidHandlers.__init__") sI18, fnV (PySem.Str.ofString "__init__") (PySem.Str.ofString "InvalidEntries.__init__") sI19, fnV (PySem.Str.ofString "__init__") (PySem.Str.ofString "InvalidIndexes.__init__") sI20, fnV (PySem.Str.ofString "__init__") (PySem.Str.ofString "InvalidTerms.__init__") sI21, fnV (PySem.Str.ofString "__init__") (PySem.Str.ofString "InvalidDeeds.__init__") sI22, fnV (PySem.Str.ofString "__init__") (PySem.Str.ofString "Lacking.__init__") sI23, fnV (PySem.Str.ofString "__init__") (PySem.Str.ofString "Heeds.__init__") sI24, fnV (PySem.Str.ofString "__init__") (PySem.Str.ofString "NotLasting.__init__") sI25, fnV (PySem.Str.ofString "__init__") (PySem.Str.ofString "Meddling.__init__") sI26, fnV (PySem.Str.ofString "__init__") (PySem.Str.ofString "Refused.__init__") sI27, fnV (PySem.Str.ofString "__init__") (PySem.Str.ofString "TooManyKinds.__init__") sI32, fnV (PySem.Str.ofString "__init__") (PySem.Str.ofString "TooManyStates.__init__") sI33, fnV (PySem.Str.ofString "__init__") (PySem.Str.ofString "TooManyRows.__init__") sI34, fnV (PySem.Str.ofString "__init__") (PySem.Str.ofString "Load.__init__") sLoadInit, fnV (PySem.Str.ofString "__repr__") (PySem.Str.ofString "Load.__repr__") sRepr, fnV (PySem.Str.ofString "size") (PySem.Str.ofString "Load.size") sSize] := congrArg (fun z => z.2.2.2.2.2.2.2.2.2.2.2.2.2.2.2.2.2.2.2.2.2.2.2.2) e
  exact {
      f_figures_of := fnA_ok (x := (PySem.Str.ofString "figures_of")) (q := (PySem.Str.ofString "figures_of")) (st := sFig) (map_at h_fns 0 rfl rfl) (rep1 h_cds 0 (by decide) rfl),
      f_is_number := fnA_ok (x := (PySem.Str.ofString "is_number")) (q := (PySem.Str.ofString "is_number")) (st := sIsNumber) (map_at h_fns 1 rfl rfl) (rep1 h_cds 1 (by decide) rfl),
      f_is_at_least := fnA_ok (x := (PySem.Str.ofString "is_at_least")) (q := (PySem.Str.ofString "is_at_least")) (st := sIsAtLeast) (map_at h_fns 2 rfl rfl) (rep1 h_cds 2 (by decide) rfl),
      f_is_name := fnA_ok (x := (PySem.Str.ofString "is_name")) (q := (PySem.Str.ofString "is_name")) (st := sIsName) (map_at h_fns 3 rfl rfl) (rep1 h_cds 3 (by decide) rfl),
      f_plain_name := fnA_ok (x := (PySem.Str.ofString "plain_name")) (q := (PySem.Str.ofString "plain_name")) (st := sPlainName) (map_at h_fns 4 rfl rfl) (rep1 h_cds 4 (by decide) rfl),
      f_is_pair := fnA_ok (x := (PySem.Str.ofString "is_pair")) (q := (PySem.Str.ofString "is_pair")) (st := sIsPair) (map_at h_fns 5 rfl rfl) (rep1 h_cds 5 (by decide) rfl),
      f_wrong_pair_at := fnA_ok (x := (PySem.Str.ofString "wrong_pair_at")) (q := (PySem.Str.ofString "wrong_pair_at")) (st := sWrong) (map_at h_fns 6 rfl rfl) (rep1 h_cds 6 (by decide) rfl),
      f_by_name := fnA_ok (x := (PySem.Str.ofString "by_name")) (q := (PySem.Str.ofString "by_name")) (st := sByName) (map_at h_fns 7 rfl rfl) (rep1 h_cds 7 (by decide) rfl),
      f_plain_pairs := fnA_ok (x := (PySem.Str.ofString "plain_pairs")) (q := (PySem.Str.ofString "plain_pairs")) (st := sPlainPairs) (map_at h_fns 8 rfl rfl) (rep1 h_cds 8 (by decide) rfl),
      f__law_source := fnA_ok (x := (PySem.Str.ofString "_law_source")) (q := (PySem.Str.ofString "_law_source")) (st := sSource) (map_at h_fns 9 rfl rfl) (rep1 h_cds 9 (by decide) rfl),
      f__law_pull := fnA_ok (x := (PySem.Str.ofString "_law_pull")) (q := (PySem.Str.ofString "_law_pull")) (st := sPull) (map_at h_fns 10 rfl rfl) (rep1 h_cds 10 (by decide) rfl),
      f__law_values := fnA_ok (x := (PySem.Str.ofString "_law_values")) (q := (PySem.Str.ofString "_law_values")) (st := s_law_values) (map_at h_fns 11 rfl rfl) (rep1 h_cds 11 (by decide) rfl),
      f__law_indexes := fnA_ok (x := (PySem.Str.ofString "_law_indexes")) (q := (PySem.Str.ofString "_law_indexes")) (st := s_law_indexes) (map_at h_fns 12 rfl rfl) (rep1 h_cds 12 (by decide) rfl),
      f__law_others := fnA_ok (x := (PySem.Str.ofString "_law_others")) (q := (PySem.Str.ofString "_law_others")) (st := sOthers) (map_at h_fns 13 rfl rfl) (rep1 h_cds 13 (by decide) rfl),
      f__law_tops := fnA_ok (x := (PySem.Str.ofString "_law_tops")) (q := (PySem.Str.ofString "_law_tops")) (st := s_law_tops) (map_at h_fns 14 rfl rfl) (rep1 h_cds 14 (by decide) rfl),
      f__law_classes := fnA_ok (x := (PySem.Str.ofString "_law_classes")) (q := (PySem.Str.ofString "_law_classes")) (st := sClasses) (map_at h_fns 15 rfl rfl) (rep1 h_cds 15 (by decide) rfl),
      f__law_kin := fnA_ok (x := (PySem.Str.ofString "_law_kin")) (q := (PySem.Str.ofString "_law_kin")) (st := sKin) (map_at h_fns 16 rfl rfl) (rep1 h_cds 16 (by decide) rfl),
      f__law_right := fnA_ok (x := (PySem.Str.ofString "_law_right")) (q := (PySem.Str.ofString "_law_right")) (st := sRight) (map_at h_fns 17 rfl rfl) (rep1 h_cds 17 (by decide) rfl),
      f_law := fnA_ok (x := (PySem.Str.ofString "law")) (q := (PySem.Str.ofString "law")) (st := sLaw) (map_at h_fns 18 rfl rfl) (rep1 h_cds 18 (by decide) rfl),
      f_init_NotALoad := fnA_ok (x := (PySem.Str.ofString "__init__")) (q := (PySem.Str.ofString "NotALoad.__init__")) (st := sI4) (map_at h_fns 19 rfl rfl) (rep1 h_cds 19 (by decide) rfl),
      f_init_NotAHandler := fnA_ok (x := (PySem.Str.ofString "__init__")) (q := (PySem.Str.ofString "NotAHandler.__init__")) (st := sI5) (map_at h_fns 20 rfl rfl) (rep1 h_cds 20 (by decide) rfl),
      f_init_NotAWeb := fnA_ok (x := (PySem.Str.ofString "__init__")) (q := (PySem.Str.ofString "NotAWeb.__init__")) (st := sI6) (map_at h_fns 21 rfl rfl) (rep1 h_cds 21 (by decide) rfl),
      f_init_InvalidName := fnA_ok (x := (PySem.Str.ofString "__init__")) (q := (PySem.Str.ofString "InvalidName.__init__")) (st := sI7) (map_at h_fns 22 rfl rfl) (rep1 h_cds 22 (by decide) rfl),
      f_init_InvalidText := fnA_ok (x := (PySem.Str.ofString "__init__")) (q := (PySem.Str.ofString "InvalidText.__init__")) (st := sI8) (map_at h_fns 23 rfl rfl) (rep1 h_cds 23 (by decide) rfl),
      f_init_InvalidNumber := fnA_ok (x := (PySem.Str.ofString "__init__")) (q := (PySem.Str.ofString "InvalidNumber.__init__")) (st := sI9) (map_at h_fns 24 rfl rfl) (rep1 h_cds 24 (by decide) rfl),
      f_init_InvalidRest := fnA_ok (x := (PySem.Str.ofString "__init__")) (q := (PySem.Str.ofString "InvalidRest.__init__")) (st := sI10) (map_at h_fns 25 rfl rfl) (rep1 h_cds 25 (by decide) rfl),
      f_init_InvalidChoice := fnA_ok (x := (PySem.Str.ofString "__init__")) (q := (PySem.Str.ofString "InvalidChoice.__init__")) (st := sI11) (map_at h_fns 26 rfl rfl) (rep1 h_cds 26 (by decide) rfl),
      f_init_InvalidLine := fnA_ok (x := (PySem.Str.ofString "__init__")) (q := (PySem.Str.ofString "InvalidLine.__init__")) (st := sI12) (map_at h_fns 27 rfl rfl) (rep1 h_cds 27 (by decide) rfl),
      f_init_UnknownKind := fnA_ok (x := (PySem.Str.ofString "__init__")) (q := (PySem.Str.ofString "UnknownKind.__init__")) (st := sI13) (map_at h_fns 28 rfl rfl) (rep1 h_cds 28 (by decide) rfl),
      f_init_InvalidPairs := fnA_ok (x := (PySem.Str.ofString "__init__")) (q := (PySem.Str.ofString "InvalidPairs.__init__")) (st := sI14) (map_at h_fns 29 rfl rfl) (rep1 h_cds 29 (by decide) rfl),
      f_init_InvalidKinds := fnA_ok (x := (PySem.Str.ofString "__init__")) (q := (PySem.Str.ofString "InvalidKinds.__init__")) (st := sI15) (map_at h_fns 30 rfl rfl) (rep1 h_cds 30 (by decide) rfl),
      f_init_InvalidRows := fnA_ok (x := (PySem.Str.ofString "__init__")) (q := (PySem.Str.ofString "InvalidRows.__init__")) (st := sI16) (map_at h_fns 31 rfl rfl) (rep1 h_cds 31 (by decide) rfl),
      f_init_InvalidNames := fnA_ok (x := (PySem.Str.ofString "__init__")) (q := (PySem.Str.ofString "InvalidNames.__init__")) (st := sI17) (map_at h_fns 32 rfl rfl) (rep1 h_cds 32 (by decide) rfl),
      f_init_InvalidHandlers := fnA_ok (x := (PySem.Str.ofString "__init__")) (q := (PySem.Str.ofString "InvalidHandlers.__init__")) (st := sI18) (map_at h_fns 33 rfl rfl) (rep1 h_cds 33 (by decide) rfl),
      f_init_InvalidEntries := fnA_ok (x := (PySem.Str.ofString "__init__")) (q := (PySem.Str.ofString "InvalidEntries.__init__")) (st := sI19) (map_at h_fns 34 rfl rfl) (rep1 h_cds 34 (by decide) rfl),
      f_init_InvalidIndexes := fnA_ok (x := (PySem.Str.ofString "__init__")) (q := (PySem.Str.ofString "InvalidIndexes.__init__")) (st := sI20) (map_at h_fns 35 rfl rfl) (rep1 h_cds 35 (by decide) rfl),
      f_init_InvalidTerms := fnA_ok (x := (PySem.Str.ofString "__init__")) (q := (PySem.Str.ofString "InvalidTerms.__init__")) (st := sI21) (map_at h_fns 36 rfl rfl) (rep1 h_cds 36 (by decide) rfl),
      f_init_InvalidDeeds := fnA_ok (x := (PySem.Str.ofString "__init__")) (q := (PySem.Str.ofString "InvalidDeeds.__init__")) (st := sI22) (map_at h_fns 37 rfl rfl) (rep1 h_cds 37 (by decide) rfl),
      f_init_Lacking := fnA_ok (x := (PySem.Str.ofString "__init__")) (q := (PySem.Str.ofString "Lacking.__init__")) (st := sI23) (map_at h_fns 38 rfl rfl) (rep1 h_cds 38 (by decide) rfl),
      f_init_Heeds := fnA_ok (x := (PySem.Str.ofString "__init__")) (q := (PySem.Str.ofString "Heeds.__init__")) (st := sI24) (map_at h_fns 39 rfl rfl) (rep1 h_cds 39 (by decide) rfl),
      f_init_NotLasting := fnA_ok (x := (PySem.Str.ofString "__init__")) (q := (PySem.Str.ofString "NotLasting.__init__")) (st := sI25) (map_at h_fns 40 rfl rfl) (rep1 h_cds 40 (by decide) rfl),
      f_init_Meddling := fnA_ok (x := (PySem.Str.ofString "__init__")) (q := (PySem.Str.ofString "Meddling.__init__")) (st := sI26) (map_at h_fns 41 rfl rfl) (rep1 h_cds 41 (by decide) rfl),
      f_init_Refused := fnA_ok (x := (PySem.Str.ofString "__init__")) (q := (PySem.Str.ofString "Refused.__init__")) (st := sI27) (map_at h_fns 42 rfl rfl) (rep1 h_cds 42 (by decide) rfl),
      f_init_TooManyKinds := fnA_ok (x := (PySem.Str.ofString "__init__")) (q := (PySem.Str.ofString "TooManyKinds.__init__")) (st := sI32) (map_at h_fns 43 rfl rfl) (rep1 h_cds 43 (by decide) rfl),
      f_init_TooManyStates := fnA_ok (x := (PySem.Str.ofString "__init__")) (q := (PySem.Str.ofString "TooManyStates.__init__")) (st := sI33) (map_at h_fns 44 rfl rfl) (rep1 h_cds 44 (by decide) rfl),
      f_init_TooManyRows := fnA_ok (x := (PySem.Str.ofString "__init__")) (q := (PySem.Str.ofString "TooManyRows.__init__")) (st := sI34) (map_at h_fns 45 rfl rfl) (rep1 h_cds 45 (by decide) rfl),
      f_load_init := fnA_ok (x := (PySem.Str.ofString "__init__")) (q := (PySem.Str.ofString "Load.__init__")) (st := sLoadInit) (map_at h_fns 46 rfl rfl) (rep1 h_cds 46 (by decide) rfl),
      f_load_repr := fnA_ok (x := (PySem.Str.ofString "__repr__")) (q := (PySem.Str.ofString "Load.__repr__")) (st := sRepr) (map_at h_fns 47 rfl rfl) (rep1 h_cds 47 (by decide) rfl),
      f_load_size := fnA_ok (x := (PySem.Str.ofString "size")) (q := (PySem.Str.ofString "Load.size")) (st := sSize) (map_at h_fns 48 rfl rfl) (rep1 h_cds 48 (by decide) rfl),
      ns := h_ns,
      nb := h_nb,
      oxV := h_oxV,
      oxL := h_oxL,
      oxA := h_oxA,
      fi := h_fi,
      ty := h_ty,
      no := h_no,
      e0 := h_e0,
      ld := h_ld,
      lf := h_lf,
      lq := h_lq,
      kV := h_kV,
      kL := h_kL,
      kA := h_kA,
      c0 := h_c0,
      c8 := h_c8,
      c16 := h_c16,
      c24 := h_c24,
      lp := ⟨congrArg (fun z => z.1) h_lp, congrArg (fun z => z.2) h_lp⟩,
      og := ⟨congrArg (fun z => z.1) h_og, congrArg (fun z => z.2) h_og⟩,
      mKINDS := intB_ok (rep1 h_ints 0 (by decide) rfl),
      mHANDLERS := intB_ok (rep1 h_ints 1 (by decide) rfl),
      mSTATES := intB_ok (rep1 h_ints 2 (by decide) rfl),
      mTERMS := intB_ok (rep1 h_ints 3 (by decide) rfl),
      mROWS := intB_ok (rep1 h_ints 4 (by decide) rfl),
      mSIGNSN := intB_ok (rep1 h_ints 5 (by decide) rfl),
      mLETTERS := strB_ok (rep1 h_strs 0 (by decide) rfl),
      mSIGNS := strB_ok (rep1 h_strs 1 (by decide) rfl) }
end My
open PySem PySem.W PySem.Calls PyProof.Rows
theorem PySem.Challenge.cw_everyload_k22_errors_and_limits_holds : PySem.Challenge.rw_everyload_k22_errors_and_limits.Holds := by
  w_on; o_law
  refine HandSHeadRun.head_any (r := OpenLaw.row PySem.Challenge.rw_everyload_k22_errors_and_limits) (q := My.qv) (H := My.hk) (ob := My.ob) (M := 12000) (loose := My.names) (d := HandSHeadRun.topDef (OpenLaw.row PySem.Challenge.rw_everyload_k22_errors_and_limits).prog 80) (kwd := []) My.ob_eq
    (by kernel_rfl) (fun s => by kernel_rfl) My.run (by kernel_rfl) (by kernel_rfl) (by kernel_rfl) (by rfl) (by first | assumption | decide +kernel) (by decide +kernel) ⟨rfl, rfl, rfl, rfl, rfl, by decide +kernel⟩ ?hw ?hc
  case hw => w_witness2
  case hc =>
    refine My.walkGE (l := PySem.Challenge.rw_everyload_k22_errors_and_limits) (n := 63) (k := 51) (x := "_law_cells") rfl (by decide) (by kernel_rfl) ⟨rfl, by decide, by decide⟩ ?F
    intro w mg fa h Y G hmg0
    obtain ⟨K, KX, c0⟩ := Y
    have c := My.facts_of c0
    have hmg : mg ("law" : PySem.Str) = some (.ref fa) := by
      have e : (HandSHeadRun.topDef (OpenLaw.row PySem.Challenge.rw_everyload_k22_errors_and_limits).prog 80).name = ("law" : PySem.Str) := by kernel_rfl
      rw [← e]
      exact hmg0
    obtain ⟨fd, hb, hF⟩ := My.main (P := (PySem.Challenge.rw_everyload_k22_errors_and_limits).prog) (w := w) KX G hmg c
    exact ⟨K, fd, My.spLaw K, KX, hb, fun H a ns hl _ hS => ⟨a, ns, rfl, hS, hl, fun _ => rfl⟩, hF⟩
