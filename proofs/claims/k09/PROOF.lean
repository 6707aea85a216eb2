import PyProof.Rows.All
import Wide.All
import OpenK.AllK
import Wide.FinOn
import HandS.ForMost
import HandS.Exc
import HandS.TryOnly
import HandS.Wide
import HandS.WideBits
import HandS.StrMore
import HandS.Conv
import HandS.Style
import HandS.TupAny
import HandS.NoneIn
import HandS.Codes
import HandS.Zip
import HandS.Small
import HandS.ExcInit
import HandS.ExcIs
import HandS.IsInst
import HandS.RaiseMore
import HandS.Lambda
import HandS.Replace
import HandS.OwnEq
import HandS.EndTab
import HandS.Gcd
import HandS.Strs
import HandS.SetFor
import HandS.Walk
import HandS.FStr
import KE.KNestM
import PyProof.ReprRoads
import PyProof.InstNe
import PyProof.ListStr
import KE.IntTextLaws
import PyProof.ReprLen
import PyProof.ReprText
import PyProof.StrLawsRepr
import HandS.Star
import HandS.ExcField
import KE.KExcIs
import KE.GoesEnumKw
import KE.KDictList
import HandS.Deep
import KE.SortData
import PyProof.EqAt
import HandS.RevTup
import KE.KDictZip
import HandS.WordsExc
import KE.KRevSl
import HandS.MakeKwOnly
import PySem.Challenge.RW_opengates_k09_whole_scripts_and_their_te
set_option Elab.async false
set_option linter.all false
set_option maxRecDepth 100000
set_option maxHeartbeats 4000000
namespace OG
open PySem PySem.Spec PyProof.Rows L2
def top (i : Nat) : Stmt := PySem.Challenge.pw_opengates_k09_whole_scripts_and_their_te.main.body.getD i (.Pass ⟨0, 0, 0, 0⟩)
abbrev s_GateError_init : Stmt := inClass (top 5) 0
theorem sc_GateError_init : FnScope ["self", "value"] ["self", "value"] (defScope s_GateError_init) := ⟨rfl, rfl, rfl, by decide +kernel, rfl, by decide +kernel, by decide +kernel⟩
abbrev s_integer_of : Stmt := top 17
theorem sc_integer_of : FnScope ["word", "most", "figures"] ["word", "most"] (defScope s_integer_of) := ⟨rfl, rfl, rfl, by decide +kernel, rfl, by decide +kernel, by decide +kernel⟩
abbrev s_is_letters : Stmt := top 18
theorem sc_is_letters : FnScope ["word", "most"] ["word", "most"] (defScope s_is_letters) := ⟨rfl, rfl, rfl, by decide +kernel, rfl, by decide +kernel, by decide +kernel⟩
abbrev s_is_line_name : Stmt := top 19
theorem sc_is_line_name : FnScope ["word", "letters"] ["word"] (defScope s_is_line_name) := ⟨rfl, rfl, rfl, by decide +kernel, rfl, by decide +kernel, by decide +kernel⟩
abbrev s_gate_of : Stmt := top 20
theorem sc_gate_of : FnScope ["word"] ["word"] (defScope s_gate_of) := ⟨rfl, rfl, rfl, by decide +kernel, rfl, by decide +kernel, by decide +kernel⟩
abbrev s_factor_of : Stmt := top 21
theorem sc_factor_of : FnScope ["word", "before", "slash", "behind", "top", "bottom"] ["word"] (defScope s_factor_of) := ⟨rfl, rfl, rfl, by decide +kernel, rfl, by decide +kernel, by decide +kernel⟩
abbrev s_is_of : Stmt := top 23
theorem sc_is_of : FnScope ["word", "signs", "sign"] ["word", "signs"] (defScope s_is_of) := ⟨rfl, rfl, rfl, by decide +kernel, rfl, by decide +kernel, by decide +kernel⟩
abbrev s_read_line : Stmt := top 26
theorem sc_read_line : FnScope ["text", "gates", "words", "name", "told", "form", "parts", "own"] ["text", "gates"] (defScope s_read_line) := ⟨rfl, rfl, rfl, by decide +kernel, rfl, by decide +kernel, by decide +kernel⟩
abbrev s_read_form : Stmt := top 27
theorem sc_read_form : FnScope ["words", "gates", "head"] ["words", "gates"] (defScope s_read_form) := ⟨rfl, rfl, rfl, by decide +kernel, rfl, by decide +kernel, by decide +kernel⟩
abbrev s_read_gates : Stmt := top 28
theorem sc_read_gates : FnScope ["words", "found", "word"] ["words"] (defScope s_read_gates) := ⟨rfl, rfl, rfl, by decide +kernel, rfl, by decide +kernel, by decide +kernel⟩
abbrev s_read_one : Stmt := top 33
theorem sc_read_one : FnScope ["words", "found"] ["words"] (defScope s_read_one) := ⟨rfl, rfl, rfl, by decide +kernel, rfl, by decide +kernel, by decide +kernel⟩
abbrev s_read_road : Stmt := top 34
theorem sc_read_road : FnScope ["words", "start", "end"] ["words"] (defScope s_read_road) := ⟨rfl, rfl, rfl, by decide +kernel, rfl, by decide +kernel, by decide +kernel⟩
abbrev s_read_product : Stmt := top 35
theorem sc_read_product : FnScope ["words", "gates", "one", "other"] ["words", "gates"] (defScope s_read_product) := ⟨rfl, rfl, rfl, by decide +kernel, rfl, by decide +kernel, by decide +kernel⟩
abbrev s_read_close : Stmt := top 36
theorem sc_read_close : FnScope ["words", "gates", "gate", "name", "left"] ["words", "gates"] (defScope s_read_close) := ⟨rfl, rfl, rfl, by decide +kernel, rfl, by decide +kernel, by decide +kernel⟩
abbrev s_read_turn : Stmt := top 37
theorem sc_read_turn : FnScope ["words", "gates", "one", "other", "name", "turned", "gate"] ["words", "gates"] (defScope s_read_turn) := ⟨rfl, rfl, rfl, by decide +kernel, rfl, by decide +kernel, by decide +kernel⟩
abbrev s_read_add : Stmt := top 38
theorem sc_read_add : FnScope ["words", "gates", "factors", "names", "own", "word", "name"] ["words", "gates"] (defScope s_read_add) := ⟨rfl, rfl, rfl, by decide +kernel, rfl, by decide +kernel, by decide +kernel⟩
abbrev s_ascending : Stmt := top 39
theorem sc_ascending : FnScope ["found"] ["found"] (defScope s_ascending) := ⟨rfl, rfl, rfl, by decide +kernel, rfl, by decide +kernel, by decide +kernel⟩
abbrev s_Script_init : Stmt := inClass (top 41) 0
theorem sc_Script_init : FnScope ["self", "text", "lines", "gates", "own", "line"] ["self", "text"] (defScope s_Script_init) := ⟨rfl, rfl, rfl, by decide +kernel, rfl, by decide +kernel, by decide +kernel⟩
abbrev s_Script_len : Stmt := inClass (top 41) 1
theorem sc_Script_len : FnScope ["self"] ["self"] (defScope s_Script_len) := ⟨rfl, rfl, rfl, by decide +kernel, rfl, by decide +kernel, by decide +kernel⟩
abbrev s_Script_contains : Stmt := inClass (top 41) 2
theorem sc_Script_contains : FnScope ["self", "value"] ["self", "value"] (defScope s_Script_contains) := ⟨rfl, rfl, rfl, by decide +kernel, rfl, by decide +kernel, by decide +kernel⟩
abbrev s_Script_eq : Stmt := inClass (top 41) 3
theorem sc_Script_eq : FnScope ["self", "other"] ["self", "other"] (defScope s_Script_eq) := ⟨rfl, rfl, rfl, by decide +kernel, rfl, by decide +kernel, by decide +kernel⟩
abbrev s_Script_gates_of : Stmt := inClass (top 41) 8
theorem sc_Script_gates_of : FnScope ["self", "name"] ["self", "name"] (defScope s_Script_gates_of) := ⟨rfl, rfl, rfl, by decide +kernel, rfl, by decide +kernel, by decide +kernel⟩
abbrev s_read_script : Stmt := top 42
theorem sc_read_script : FnScope ["text", "rows", "lines", "gates", "number", "row", "line", "name", "form", "parts", "own"] ["text"] (defScope s_read_script) := ⟨rfl, rfl, rfl, by decide +kernel, rfl, by decide +kernel, by decide +kernel⟩
abbrev s_l_pot : Stmt := top 48
theorem sc_l_pot : FnScope ["script", "place", "cell", "own", "small"] ["script", "place"] (defScope s_l_pot) := ⟨rfl, rfl, rfl, by decide +kernel, rfl, by decide +kernel, by decide +kernel⟩
abbrev s_l_take : Stmt := top 49
theorem sc_l_take : FnScope ["pot", "upto", "digit", "prime", "blend"] ["pot", "upto"] (defScope s_l_take) := ⟨rfl, rfl, rfl, by decide +kernel, rfl, by decide +kernel, by decide +kernel⟩
abbrev s_l_of : Stmt := top 50
theorem sc_l_of : FnScope ["pot", "some"] ["pot", "some"] (defScope s_l_of) := ⟨rfl, rfl, rfl, by decide +kernel, rfl, by decide +kernel, by decide +kernel⟩
abbrev s_l_some : Stmt := top 51
theorem sc_l_some : FnScope ["pot", "pool", "many", "left", "found", "lap"] ["pot", "pool", "many"] (defScope s_l_some) := ⟨rfl, rfl, rfl, by decide +kernel, rfl, by decide +kernel, by decide +kernel⟩
abbrev s_l_cells : Stmt := top 52
theorem sc_l_cells : FnScope ["script", "most"] ["script", "most"] (defScope s_l_cells) := ⟨rfl, rfl, rfl, by decide +kernel, rfl, by decide +kernel, by decide +kernel⟩
abbrev s_l_heard : Stmt := top 53
theorem sc_l_heard : FnScope ["call", "caught", "back", "error"] ["call"] (defScope s_l_heard) := ⟨rfl, rfl, rfl, by decide +kernel, rfl, by decide +kernel, by decide +kernel⟩
abbrev s_l_num : Stmt := top 55
theorem sc_l_num : FnScope ["by", "top", "bottom", "one", "other"] ["by", "top", "bottom"] (defScope s_l_num) := ⟨rfl, rfl, rfl, by decide +kernel, rfl, by decide +kernel, by decide +kernel⟩
abbrev s_l_book_names : Stmt := top 56
theorem sc_l_book_names : FnScope ["pot", "many", "at", "is_alike", "letters", "tellings", "long", "base", "found", "telling", "lap"] ["pot", "many"] (defScope s_l_book_names) := ⟨rfl, rfl, rfl, by decide +kernel, rfl, by decide +kernel, by decide +kernel⟩
abbrev s_l_script_line_gates : Stmt := top 57
theorem sc_l_script_line_gates : FnScope ["known", "form", "parts", "both", "swapped", "gate"] ["known", "form", "parts"] (defScope s_l_script_line_gates) := ⟨rfl, rfl, rfl, by decide +kernel, rfl, by decide +kernel, by decide +kernel⟩
abbrev s_l_script_gates : Stmt := top 58
theorem sc_l_script_gates : FnScope ["lines", "known", "name", "form", "parts"] ["lines"] (defScope s_l_script_gates) := ⟨rfl, rfl, rfl, by decide +kernel, rfl, by decide +kernel, by decide +kernel⟩
abbrev s_l_script_width : Stmt := top 59
theorem sc_l_script_width : FnScope ["lines", "known", "line"] ["lines"] (defScope s_l_script_width) := ⟨rfl, rfl, rfl, by decide +kernel, rfl, by decide +kernel, by decide +kernel⟩
abbrev s_l_script_factor_text : Stmt := top 60
theorem sc_l_script_factor_text : FnScope ["factor", "top", "bottom"] ["factor"] (defScope s_l_script_factor_text) := ⟨rfl, rfl, rfl, by decide +kernel, rfl, by decide +kernel, by decide +kernel⟩
abbrev s_l_script_line_text : Stmt := top 61
theorem sc_l_script_line_text : FnScope ["line", "name", "form", "parts", "words", "part"] ["line"] (defScope s_l_script_line_text) := ⟨rfl, rfl, rfl, by decide +kernel, rfl, by decide +kernel, by decide +kernel⟩
abbrev s_l_script_text : Stmt := top 62
theorem sc_l_script_text : FnScope ["lines", "line"] ["lines"] (defScope s_l_script_text) := ⟨rfl, rfl, rfl, by decide +kernel, rfl, by decide +kernel, by decide +kernel⟩
abbrev s_l_script_name : Stmt := top 63
theorem sc_l_script_name : FnScope ["pot", "at", "way"] ["pot", "at"] (defScope s_l_script_name) := ⟨rfl, rfl, rfl, by decide +kernel, rfl, by decide +kernel, by decide +kernel⟩
abbrev s_l_script_factor_drawn : Stmt := top 64
theorem sc_l_script_factor_drawn : FnScope ["pot", "by", "bottom"] ["pot", "by"] (defScope s_l_script_factor_drawn) := ⟨rfl, rfl, rfl, by decide +kernel, rfl, by decide +kernel, by decide +kernel⟩
abbrev s_l_script_simple : Stmt := top 65
theorem sc_l_script_simple : FnScope ["pot", "kinds", "width", "gates", "some", "one", "other", "gate"] ["pot", "kinds", "width"] (defScope s_l_script_simple) := ⟨rfl, rfl, rfl, by decide +kernel, rfl, by decide +kernel, by decide +kernel⟩
abbrev s_l_script_some : Stmt := top 66
theorem sc_l_script_some : FnScope ["pot", "pool", "many", "left", "found", "lap"] ["pot", "pool", "many"] (defScope s_l_script_some) := ⟨rfl, rfl, rfl, by decide +kernel, rfl, by decide +kernel, by decide +kernel⟩
abbrev s_l_script_try : Stmt := top 67
theorem sc_l_script_try : FnScope ["pot", "by", "width", "known", "form", "names", "near", "one", "other", "gate", "wide", "kin", "some", "far", "name", "lap", "spot"] ["pot", "by", "width", "known", "form"] (defScope s_l_script_try) := ⟨rfl, rfl, rfl, by decide +kernel, rfl, by decide +kernel, by decide +kernel⟩
abbrev s_l_script_size : Stmt := top 68
theorem sc_l_script_size : FnScope ["sizes", "form", "parts", "factor", "one"] ["sizes", "form", "parts"] (defScope s_l_script_size) := ⟨rfl, rfl, rfl, by decide +kernel, rfl, by decide +kernel, by decide +kernel⟩
abbrev s_l_script_drawn : Stmt := top 69
theorem sc_l_script_drawn : FnScope ["pot", "book", "width", "budget", "is_plain", "lines", "known", "sizes", "lap", "menu", "form", "found", "name"] ["pot", "book", "width", "budget", "is_plain"] (defScope s_l_script_drawn) := ⟨rfl, rfl, rfl, by decide +kernel, rfl, by decide +kernel, by decide +kernel⟩
abbrev s_l_odd : Stmt := top 70
theorem sc_l_odd : FnScope ["pot", "some"] ["pot"] (defScope s_l_odd) := ⟨rfl, rfl, rfl, by decide +kernel, rfl, by decide +kernel, by decide +kernel⟩
abbrev s_l_bent : Stmt := top 71
theorem sc_l_bent : FnScope ["pot", "value", "at", "some", "sign"] ["pot", "value"] (defScope s_l_bent) := ⟨rfl, rfl, rfl, by decide +kernel, rfl, by decide +kernel, by decide +kernel⟩
abbrev s_l_is_told_right : Stmt := top 74
theorem sc_l_is_told_right : FnScope ["script", "lines", "known", "is_plain", "name", "line"] ["script", "lines"] (defScope s_l_is_told_right) := ⟨rfl, rfl, rfl, by decide +kernel, rfl, by decide +kernel, by decide +kernel⟩
abbrev s_l_other_lines : Stmt := top 75
theorem sc_l_other_lines : FnScope ["pot", "lines", "way", "last"] ["pot", "lines"] (defScope s_l_other_lines) := ⟨rfl, rfl, rfl, by decide +kernel, rfl, by decide +kernel, by decide +kernel⟩
abbrev s_l_are_values_right : Stmt := top 76
theorem sc_l_are_values_right : FnScope ["pot", "script", "lines", "names", "some", "is_name", "caught", "back", "value", "line"] ["pot", "script", "lines"] (defScope s_l_are_values_right) := ⟨rfl, rfl, rfl, by decide +kernel, rfl, by decide +kernel, by decide +kernel⟩
abbrev s_l_right : Stmt := top 77
theorem sc_l_right : FnScope ["pot", "book", "lines", "text", "other", "script", "twin", "far", "is_like", "value"] ["pot"] (defScope s_l_right) := ⟨rfl, rfl, rfl, by decide +kernel, rfl, by decide +kernel, by decide +kernel⟩
abbrev s_law : Stmt := top 78
theorem sc_law : FnScope ["script", "place"] ["script"] (defScope s_law) := ⟨rfl, rfl, rfl, by decide +kernel, rfl, by decide +kernel, by decide +kernel⟩
structure Txt (K : PySem.W.Frag) (mg : Str → Option Value) where
  f_GateError_init : Addr
  fd_GateError_init : FuncData
  F_GateError_init : Fun K "__init__" "GateError.__init__" s_GateError_init f_GateError_init fd_GateError_init
  b_GateError_init : Binds K fd_GateError_init ["self", "value"] []
  f_integer_of : Addr
  fd_integer_of : FuncData
  F_integer_of : Fun K "integer_of" "integer_of" s_integer_of f_integer_of fd_integer_of
  b_integer_of : Binds K fd_integer_of ["word", "most"] []
  g_integer_of : mg "integer_of" = some (.ref f_integer_of)
  f_is_letters : Addr
  fd_is_letters : FuncData
  F_is_letters : Fun K "is_letters" "is_letters" s_is_letters f_is_letters fd_is_letters
  b_is_letters : Binds K fd_is_letters ["word", "most"] []
  g_is_letters : mg "is_letters" = some (.ref f_is_letters)
  f_is_line_name : Addr
  fd_is_line_name : FuncData
  F_is_line_name : Fun K "is_line_name" "is_line_name" s_is_line_name f_is_line_name fd_is_line_name
  b_is_line_name : Binds K fd_is_line_name ["word"] []
  g_is_line_name : mg "is_line_name" = some (.ref f_is_line_name)
  f_gate_of : Addr
  fd_gate_of : FuncData
  F_gate_of : Fun K "gate_of" "gate_of" s_gate_of f_gate_of fd_gate_of
  b_gate_of : Binds K fd_gate_of ["word"] []
  g_gate_of : mg "gate_of" = some (.ref f_gate_of)
  f_factor_of : Addr
  fd_factor_of : FuncData
  F_factor_of : Fun K "factor_of" "factor_of" s_factor_of f_factor_of fd_factor_of
  b_factor_of : Binds K fd_factor_of ["word"] []
  g_factor_of : mg "factor_of" = some (.ref f_factor_of)
  f_is_of : Addr
  fd_is_of : FuncData
  F_is_of : Fun K "_is_of" "_is_of" s_is_of f_is_of fd_is_of
  b_is_of : Binds K fd_is_of ["word", "signs"] []
  g_is_of : mg "_is_of" = some (.ref f_is_of)
  f_read_line : Addr
  fd_read_line : FuncData
  F_read_line : Fun K "read_line" "read_line" s_read_line f_read_line fd_read_line
  b_read_line : Binds K fd_read_line ["text", "gates"] []
  g_read_line : mg "read_line" = some (.ref f_read_line)
  f_read_form : Addr
  fd_read_form : FuncData
  F_read_form : Fun K "read_form" "read_form" s_read_form f_read_form fd_read_form
  b_read_form : Binds K fd_read_form ["words", "gates"] []
  g_read_form : mg "read_form" = some (.ref f_read_form)
  f_read_gates : Addr
  fd_read_gates : FuncData
  F_read_gates : Fun K "read_gates" "read_gates" s_read_gates f_read_gates fd_read_gates
  b_read_gates : Binds K fd_read_gates ["words"] []
  g_read_gates : mg "read_gates" = some (.ref f_read_gates)
  f_read_one : Addr
  fd_read_one : FuncData
  F_read_one : Fun K "_read_one" "_read_one" s_read_one f_read_one fd_read_one
  b_read_one : Binds K fd_read_one ["words"] []
  g_read_one : mg "_read_one" = some (.ref f_read_one)
  f_read_road : Addr
  fd_read_road : FuncData
  F_read_road : Fun K "_read_road" "_read_road" s_read_road f_read_road fd_read_road
  b_read_road : Binds K fd_read_road ["words"] []
  g_read_road : mg "_read_road" = some (.ref f_read_road)
  f_read_product : Addr
  fd_read_product : FuncData
  F_read_product : Fun K "_read_product" "_read_product" s_read_product f_read_product fd_read_product
  b_read_product : Binds K fd_read_product ["words", "gates"] []
  g_read_product : mg "_read_product" = some (.ref f_read_product)
  f_read_close : Addr
  fd_read_close : FuncData
  F_read_close : Fun K "_read_close" "_read_close" s_read_close f_read_close fd_read_close
  b_read_close : Binds K fd_read_close ["words", "gates"] []
  g_read_close : mg "_read_close" = some (.ref f_read_close)
  f_read_turn : Addr
  fd_read_turn : FuncData
  F_read_turn : Fun K "_read_turn" "_read_turn" s_read_turn f_read_turn fd_read_turn
  b_read_turn : Binds K fd_read_turn ["words", "gates"] []
  g_read_turn : mg "_read_turn" = some (.ref f_read_turn)
  f_read_add : Addr
  fd_read_add : FuncData
  F_read_add : Fun K "_read_add" "_read_add" s_read_add f_read_add fd_read_add
  b_read_add : Binds K fd_read_add ["words", "gates"] []
  g_read_add : mg "_read_add" = some (.ref f_read_add)
  f_ascending : Addr
  fd_ascending : FuncData
  F_ascending : Fun K "_ascending" "_ascending" s_ascending f_ascending fd_ascending
  b_ascending : Binds K fd_ascending ["found"] []
  g_ascending : mg "_ascending" = some (.ref f_ascending)
  f_Script_init : Addr
  fd_Script_init : FuncData
  F_Script_init : Fun K "__init__" "Script.__init__" s_Script_init f_Script_init fd_Script_init
  b_Script_init : Binds K fd_Script_init ["self", "text"] []
  f_Script_len : Addr
  fd_Script_len : FuncData
  F_Script_len : Fun K "__len__" "Script.__len__" s_Script_len f_Script_len fd_Script_len
  b_Script_len : Binds K fd_Script_len ["self"] []
  f_Script_contains : Addr
  fd_Script_contains : FuncData
  F_Script_contains : Fun K "__contains__" "Script.__contains__" s_Script_contains f_Script_contains fd_Script_contains
  b_Script_contains : Binds K fd_Script_contains ["self", "value"] []
  f_Script_eq : Addr
  fd_Script_eq : FuncData
  F_Script_eq : Fun K "__eq__" "Script.__eq__" s_Script_eq f_Script_eq fd_Script_eq
  b_Script_eq : Binds K fd_Script_eq ["self", "other"] []
  f_Script_gates_of : Addr
  fd_Script_gates_of : FuncData
  F_Script_gates_of : Fun K "gates_of" "Script.gates_of" s_Script_gates_of f_Script_gates_of fd_Script_gates_of
  b_Script_gates_of : Binds K fd_Script_gates_of ["self", "name"] []
  f_read_script : Addr
  fd_read_script : FuncData
  F_read_script : Fun K "_read_script" "_read_script" s_read_script f_read_script fd_read_script
  b_read_script : Binds K fd_read_script ["text"] []
  g_read_script : mg "_read_script" = some (.ref f_read_script)
  f_l_pot : Addr
  fd_l_pot : FuncData
  F_l_pot : Fun K "_law_pot" "_law_pot" s_l_pot f_l_pot fd_l_pot
  b_l_pot : Binds K fd_l_pot ["script", "place"] []
  g_l_pot : mg "_law_pot" = some (.ref f_l_pot)
  f_l_take : Addr
  fd_l_take : FuncData
  F_l_take : Fun K "_law_take" "_law_take" s_l_take f_l_take fd_l_take
  b_l_take : Binds K fd_l_take ["pot", "upto"] []
  g_l_take : mg "_law_take" = some (.ref f_l_take)
  f_l_of : Addr
  fd_l_of : FuncData
  F_l_of : Fun K "_law_of" "_law_of" s_l_of f_l_of fd_l_of
  b_l_of : Binds K fd_l_of ["pot", "some"] []
  g_l_of : mg "_law_of" = some (.ref f_l_of)
  f_l_some : Addr
  fd_l_some : FuncData
  F_l_some : Fun K "_law_some" "_law_some" s_l_some f_l_some fd_l_some
  b_l_some : Binds K fd_l_some ["pot", "pool", "many"] []
  g_l_some : mg "_law_some" = some (.ref f_l_some)
  f_l_cells : Addr
  fd_l_cells : FuncData
  F_l_cells : Fun K "_law_cells" "_law_cells" s_l_cells f_l_cells fd_l_cells
  b_l_cells : Binds K fd_l_cells ["script", "most"] []
  g_l_cells : mg "_law_cells" = some (.ref f_l_cells)
  f_l_heard : Addr
  fd_l_heard : FuncData
  F_l_heard : Fun K "_law_heard" "_law_heard" s_l_heard f_l_heard fd_l_heard
  b_l_heard : Binds K fd_l_heard ["call"] []
  g_l_heard : mg "_law_heard" = some (.ref f_l_heard)
  f_l_num : Addr
  fd_l_num : FuncData
  F_l_num : Fun K "_law_num" "_law_num" s_l_num f_l_num fd_l_num
  b_l_num : Binds K fd_l_num ["by", "top", "bottom"] []
  g_l_num : mg "_law_num" = some (.ref f_l_num)
  f_l_book_names : Addr
  fd_l_book_names : FuncData
  F_l_book_names : Fun K "_law_book_names" "_law_book_names" s_l_book_names f_l_book_names fd_l_book_names
  b_l_book_names : Binds K fd_l_book_names ["pot", "many"] []
  g_l_book_names : mg "_law_book_names" = some (.ref f_l_book_names)
  f_l_script_line_gates : Addr
  fd_l_script_line_gates : FuncData
  F_l_script_line_gates : Fun K "_law_script_line_gates" "_law_script_line_gates" s_l_script_line_gates f_l_script_line_gates fd_l_script_line_gates
  b_l_script_line_gates : Binds K fd_l_script_line_gates ["known", "form", "parts"] []
  g_l_script_line_gates : mg "_law_script_line_gates" = some (.ref f_l_script_line_gates)
  f_l_script_gates : Addr
  fd_l_script_gates : FuncData
  F_l_script_gates : Fun K "_law_script_gates" "_law_script_gates" s_l_script_gates f_l_script_gates fd_l_script_gates
  b_l_script_gates : Binds K fd_l_script_gates ["lines"] []
  g_l_script_gates : mg "_law_script_gates" = some (.ref f_l_script_gates)
  f_l_script_width : Addr
  fd_l_script_width : FuncData
  F_l_script_width : Fun K "_law_script_width" "_law_script_width" s_l_script_width f_l_script_width fd_l_script_width
  b_l_script_width : Binds K fd_l_script_width ["lines"] []
  g_l_script_width : mg "_law_script_width" = some (.ref f_l_script_width)
  f_l_script_factor_text : Addr
  fd_l_script_factor_text : FuncData
  F_l_script_factor_text : Fun K "_law_script_factor_text" "_law_script_factor_text" s_l_script_factor_text f_l_script_factor_text fd_l_script_factor_text
  b_l_script_factor_text : Binds K fd_l_script_factor_text ["factor"] []
  g_l_script_factor_text : mg "_law_script_factor_text" = some (.ref f_l_script_factor_text)
  f_l_script_line_text : Addr
  fd_l_script_line_text : FuncData
  F_l_script_line_text : Fun K "_law_script_line_text" "_law_script_line_text" s_l_script_line_text f_l_script_line_text fd_l_script_line_text
  b_l_script_line_text : Binds K fd_l_script_line_text ["line"] []
  g_l_script_line_text : mg "_law_script_line_text" = some (.ref f_l_script_line_text)
  f_l_script_text : Addr
  fd_l_script_text : FuncData
  F_l_script_text : Fun K "_law_script_text" "_law_script_text" s_l_script_text f_l_script_text fd_l_script_text
  b_l_script_text : Binds K fd_l_script_text ["lines"] []
  g_l_script_text : mg "_law_script_text" = some (.ref f_l_script_text)
  f_l_script_name : Addr
  fd_l_script_name : FuncData
  F_l_script_name : Fun K "_law_script_name" "_law_script_name" s_l_script_name f_l_script_name fd_l_script_name
  b_l_script_name : Binds K fd_l_script_name ["pot", "at"] []
  g_l_script_name : mg "_law_script_name" = some (.ref f_l_script_name)
  f_l_script_factor_drawn : Addr
  fd_l_script_factor_drawn : FuncData
  F_l_script_factor_drawn : Fun K "_law_script_factor_drawn" "_law_script_factor_drawn" s_l_script_factor_drawn f_l_script_factor_drawn fd_l_script_factor_drawn
  b_l_script_factor_drawn : Binds K fd_l_script_factor_drawn ["pot", "by"] []
  g_l_script_factor_drawn : mg "_law_script_factor_drawn" = some (.ref f_l_script_factor_drawn)
  f_l_script_simple : Addr
  fd_l_script_simple : FuncData
  F_l_script_simple : Fun K "_law_script_simple" "_law_script_simple" s_l_script_simple f_l_script_simple fd_l_script_simple
  b_l_script_simple : Binds K fd_l_script_simple ["pot", "kinds", "width"] []
  g_l_script_simple : mg "_law_script_simple" = some (.ref f_l_script_simple)
  f_l_script_some : Addr
  fd_l_script_some : FuncData
  F_l_script_some : Fun K "_law_script_some" "_law_script_some" s_l_script_some f_l_script_some fd_l_script_some
  b_l_script_some : Binds K fd_l_script_some ["pot", "pool", "many"] []
  g_l_script_some : mg "_law_script_some" = some (.ref f_l_script_some)
  f_l_script_try : Addr
  fd_l_script_try : FuncData
  F_l_script_try : Fun K "_law_script_try" "_law_script_try" s_l_script_try f_l_script_try fd_l_script_try
  b_l_script_try : Binds K fd_l_script_try ["pot", "by", "width", "known", "form"] []
  g_l_script_try : mg "_law_script_try" = some (.ref f_l_script_try)
  f_l_script_size : Addr
  fd_l_script_size : FuncData
  F_l_script_size : Fun K "_law_script_size" "_law_script_size" s_l_script_size f_l_script_size fd_l_script_size
  b_l_script_size : Binds K fd_l_script_size ["sizes", "form", "parts"] []
  g_l_script_size : mg "_law_script_size" = some (.ref f_l_script_size)
  f_l_script_drawn : Addr
  fd_l_script_drawn : FuncData
  F_l_script_drawn : Fun K "_law_script_drawn" "_law_script_drawn" s_l_script_drawn f_l_script_drawn fd_l_script_drawn
  b_l_script_drawn : Binds K fd_l_script_drawn ["pot", "book", "width", "budget", "is_plain"] []
  g_l_script_drawn : mg "_law_script_drawn" = some (.ref f_l_script_drawn)
  f_l_odd : Addr
  fd_l_odd : FuncData
  F_l_odd : Fun K "_law_odd" "_law_odd" s_l_odd f_l_odd fd_l_odd
  b_l_odd : Binds K fd_l_odd ["pot"] []
  g_l_odd : mg "_law_odd" = some (.ref f_l_odd)
  f_l_bent : Addr
  fd_l_bent : FuncData
  F_l_bent : Fun K "_law_bent" "_law_bent" s_l_bent f_l_bent fd_l_bent
  b_l_bent : Binds K fd_l_bent ["pot", "value"] []
  g_l_bent : mg "_law_bent" = some (.ref f_l_bent)
  f_l_is_told_right : Addr
  fd_l_is_told_right : FuncData
  F_l_is_told_right : Fun K "_law_is_told_right" "_law_is_told_right" s_l_is_told_right f_l_is_told_right fd_l_is_told_right
  b_l_is_told_right : Binds K fd_l_is_told_right ["script", "lines"] []
  g_l_is_told_right : mg "_law_is_told_right" = some (.ref f_l_is_told_right)
  f_l_other_lines : Addr
  fd_l_other_lines : FuncData
  F_l_other_lines : Fun K "_law_other_lines" "_law_other_lines" s_l_other_lines f_l_other_lines fd_l_other_lines
  b_l_other_lines : Binds K fd_l_other_lines ["pot", "lines"] []
  g_l_other_lines : mg "_law_other_lines" = some (.ref f_l_other_lines)
  f_l_are_values_right : Addr
  fd_l_are_values_right : FuncData
  F_l_are_values_right : Fun K "_law_are_values_right" "_law_are_values_right" s_l_are_values_right f_l_are_values_right fd_l_are_values_right
  b_l_are_values_right : Binds K fd_l_are_values_right ["pot", "script", "lines"] []
  g_l_are_values_right : mg "_law_are_values_right" = some (.ref f_l_are_values_right)
  f_l_right : Addr
  fd_l_right : FuncData
  F_l_right : Fun K "_law_right" "_law_right" s_l_right f_l_right fd_l_right
  b_l_right : Binds K fd_l_right ["pot"] []
  g_l_right : mg "_law_right" = some (.ref f_l_right)
  f_law : Addr
  fd_law : FuncData
  F_law : Fun K "law" "law" s_law f_law fd_law
  b_law : Binds K fd_law ["script"] []
  g_law : mg "law" = some (.ref f_law)
  n_ValueError : mg "ValueError" = none
  n_abs : mg "abs" = none
  n_all : mg "all" = none
  n_any : mg "any" = none
  n_bool : mg "bool" = none
  n_enumerate : mg "enumerate" = none
  n_int : mg "int" = none
  n_isinstance : mg "isinstance" = none
  n_len : mg "len" = none
  n_list : mg "list" = none
  n_max : mg "max" = none
  n_min : mg "min" = none
  n_range : mg "range" = none
  n_repr : mg "repr" = none
  n_set : mg "set" = none
  n_sorted : mg "sorted" = none
  n_str : mg "str" = none
  n_sum : mg "sum" = none
  n_tuple : mg "tuple" = none
  n_zip : mg "zip" = none
  m_LETTERS : ∃ u, mg "LETTERS" = some u ∧ RelV (.str "abcdefghijklmnopqrstuvwxyz") u
  m_FIGURES : ∃ u, mg "FIGURES" = some u ∧ RelV (.str "0123456789") u
  m_MOST_FIGURES : ∃ u, mg "MOST_FIGURES" = some u ∧ RelV (.int 1000) u
  a_NO_NAMES : Addr
  m_NO_NAMES : ∃ u, mg "NO_NAMES" = some u ∧ RelV (.ref a_NO_NAMES) u
  sq_NO_NAMES : ∀ H, SqT K H a_NO_NAMES ((["script", "around", "one", "road", "close", "turn", "add"] : List Str).map V.str)
  g_gcd : mg "gcd" = some (.builtin "math.gcd")
  c_GateError : Addr
  g_GateError : mg "GateError" = some (.ref c_GateError)
  c_Script : Addr
  g_Script : mg "Script" = some (.ref c_Script)
  c_BadScript : Addr
  g_BadScript : mg "BadScript" = some (.ref c_BadScript)
  c_NoName : Addr
  g_NoName : mg "NoName" = some (.ref c_NoName)
end OG
set_option Elab.async false
set_option linter.all false
set_option maxRecDepth 100000
set_option maxHeartbeats 4000000
namespace OG
open PySem PySem.Spec PyProof.Rows L2
section
variable {X : Cx}
def CPowW (i j : Int) : Prop := 0 ≤ j ∧ (Builtin.Int.intBits i : Int) * j ≤ 2 ^ 27
theorem op_powW : OpR X (binaryOp .Pow) (rI CPowW fun i j => .int (i ^ j.toNat)) := opI fun _ _ _ _ _ _ _ hc q => pow_int hc.1 hc.2 q
theorem pow_c {i j : Int} (h : (decide (0 ≤ j) && decide ((Builtin.Int.intBits i : Int) * j ≤ 2 ^ 27)) = true) : CPowW i j := by
  rw [Bool.and_eq_true, decide_eq_true_eq, decide_eq_true_eq] at h
  exact h
theorem pow_64 {i j : Int} (ha : i.natAbs < 2 ^ 64) (h0 : 0 ≤ j) (hn : j ≤ 1000000) : CPowW i j := ⟨h0, bits_mul_le ha h0 hn⟩
def repS (x : Str) (n : Int) : Str := if n < 1 then Str.empty else if (n == 1 || x.length == 0) = true then x else ⟨(List.replicate n.toNat x.cps).foldl (· ++ ·) #[]⟩
theorem op_mulS : OpR X (binaryOp .Mult) (fun x y H Q => ∃ (z : Str) (n : Int), x = .str z ∧ y = .int n ∧ 0 ≤ n ∧ n ≤ 100000 ∧ z.length ≤ 100 ∧ Q (.str (repS z n)) H) := by
  intro pins s σ H x y v u Q I rx ry h
  obtain ⟨z, n, rfl, rfl, h0, h1, h2, q⟩ := h
  obtain ⟨t, rfl⟩ := rx
  obtain ⟨t', rfl⟩ := ry
  have htl : Builtin.Str.tooLong (z.length * n.toNat) = false := by
    have e3 : z.length * n.toNat ≤ 100 * 100000 := Nat.mul_le_mul h2 (by omega)
    have e4 : z.length * n.toNat ≤ sizeLine := Nat.le_trans e3 (by decide)
    show decide (z.length * n.toNat > sizeLine) = false
    exact decide_eq_false (by omega)
  refine PySem.P.mul_str (by simp only [Bool.or_eq_false_iff, decide_eq_false_iff_not]; omega) (fun hn _ => ?_) (fun hn _ => ?_) ?_
  · have e1 : (2 : Int) ^ 63 - 1 ≥ 100 * n := by omega
    have e2 : (100 : Int) ≤ (2 ^ 63 - 1) / n := Int.le_ediv_of_mul_le (by omega) e1
    omega
  · exact htl
  · unfold repS at q
    by_cases c1 : n < 1
    · rw [if_pos c1] at q ⊢
      exact ⟨by decide, .str Str.empty, H, I.tok _, ⟨_, rfl⟩, q⟩
    · rw [if_neg c1] at q ⊢
      by_cases c2 : (n == 1 || z.length == 0) = true
      · rw [if_pos c2] at q ⊢
        exact ⟨.str z, H, I, ⟨_, rfl⟩, q⟩
      · rw [if_neg c2] at q ⊢
        exact ⟨fits_reps htl, .str _, H, I.tok _, ⟨_, rfl⟩, q⟩
end
/-! heaps -/
/-- all but p stays -/
def Kp (p : Addr) (H H' : Hp) : Prop := ∀ b o, b ≠ p → H b = some o → H' b = some o
theorem Kp.refl (p : Addr) (H : Hp) : Kp p H H := fun _ _ _ h => h
theorem Kp.trans {p : Addr} {H H1 H2 : Hp} (a : Kp p H H1) (b : Kp p H1 H2) : Kp p H H2 := fun c o n h => b c o n (a c o n h)
theorem Same.kp {p : Addr} {H H' : Hp} (s : Same H H') : Kp p H H' := fun b o _ h => s b o h
theorem same_new {H : Hp} {p : Addr} {o : HO} (h : H p = none) : Same H (upd H p o) := fun b x e => by
  rw [upd_ne (ne_of_none e h)]
  exact e
theorem kp_self {p : Addr} {H : Hp} {o : HO} : Kp p H (upd H p o) := fun b x n e => by
  rw [upd_ne n]
  exact e
/-- the pot at p, at least k takes left -/
def Pot (k : Nat) (H : Hp) (p : Addr) : Prop := ∃ a b c : Int, H p = some (.lst [.int a, .int b, .int c]) ∧ 0 ≤ a ∧ a < 2 ^ 1000 ∧ 0 ≤ b ∧ b < 2 ^ 61 ∧ 0 ≤ c ∧ c + k ≤ 1000000
theorem Pot.mono {k j : Nat} {H : Hp} {p : Addr} (h : Pot k H p) (e : j ≤ k) : Pot j H p := by
  obtain ⟨a, b, c, h1, h2, h3, h4, h5, h6, h7⟩ := h
  exact ⟨a, b, c, h1, h2, h3, h4, h5, h6, by omega⟩
theorem Pot.same {k : Nat} {H H' : Hp} {p : Addr} (h : Pot k H p) (s : Same H H') : Pot k H' p := by
  obtain ⟨a, b, c, h1, h2⟩ := h
  exact ⟨a, b, c, s _ _ h1, h2⟩
theorem Pot.ex {k : Nat} {H : Hp} {p : Addr} (h : Pot k H p) : ∃ o, H p = some o := by
  obtain ⟨a, b, c, h1, _⟩ := h
  exact ⟨_, h1⟩
/-- a draw's way: the pot has k left, all else stands -/
def Dr (p : Addr) (k : Nat) (H H' : Hp) : Prop := Kp p H H' ∧ Pot k H' p
end OG
set_option Elab.async false
set_option linter.all false
set_option maxRecDepth 100000
set_option maxHeartbeats 4000000
namespace OG
open PySem PySem.Spec PyProof.Rows L2
section
variable {P : Program} {w : World} {K : PySem.W.Frag} {mg : Str → Option Value} {base : Heap}
def spTake : Sp := fun vs H Q _ => ∃ (p : Addr) (u : Int) (k : Nat), vs = [.ref p, .int u] ∧ Pot (k + 1) H p ∧ 0 < u ∧ u < 2 ^ 60 ∧
  ∀ (r : Int) (H' : Hp), 0 ≤ r → r < u → Dr p k H H' → Q (.int r) H'
theorem rix {H : Hp} {p : Addr} {xs : List V} {i : Nat} {v : V} {Q : VK} (h : H p = some (.lst xs)) (hi : xs[i]? = some v) (q : Q v H) : rIxL K (.ref p) (.int (i : Int)) H Q :=
  ⟨p, xs, _, v, rfl, rfl, SqL.of h, atI_nat hi, q⟩
theorem pow3 {x : Int} (h : x.natAbs < 2 ^ 64) : CPowW x 3 := pow_64 h (by decide) (by decide)
theorem ok_l_take (T : Txt K mg) : FnOk P w K mg base CX0 1 T.f_l_take T.fd_l_take ["pot", "upto"] (spTake) := by
  refine T.F_l_take.ok sc_l_take (fun vs H Q E h => ?_) (fun cdv A outer s H vs Q E hr h => ?_)
  · obtain ⟨p, u, k, rfl, _⟩ := h
    rfl
  · obtain ⟨p, u, k, rfl, ⟨a, b, c, hp, a0, a1, b0, b1, c0, c1⟩, u0, u1, q⟩ := h
    refine ⟨_, (pss_cons (ps_if (pt_cmpR op_gt (pe_ix ix_list (pv 0) pe_int (fun _ _ => rfl)) pe_int (nomark _)) (pss_cons (ps_set (i := 2) sc_l_take.nd rfl (Or.inl rfl) (pe_op op_mod (pe_callTy call_int1 (by rfl) T.n_int (by decide +kernel) (pa_cons (pe_ix ix_list (pv 0) pe_int (fun _ _ => rfl)) pa_nil)) (pv 1)))
  (pss_cons (ps_asg (pe_op op_fdivW (pe_ix ix_list (pv 0) pe_int (fun _ _ => rfl)) (pv 1)) (pg_sub (pv 0) pe_int set_list))
  (pss_one (ps_ret (pv 2))))) pss_nil)
  (pss_cons (ps_asg (pe_op op_add (pe_ix ix_list (pv 0) pe_int (fun _ _ => rfl)) pe_int) (pg_sub (pv 0) pe_int set_list))
  (pss_cons (ps_set (i := 3) sc_l_take.nd rfl (Or.inl rfl) (pe_ix ix_list (pe_lst (pa_cons pe_int (pa_cons pe_int (pa_cons pe_int (pa_cons pe_int (pa_cons pe_int pa_nil)))))) (pe_op op_mod (pe_callTy call_int1 (by rfl) T.n_int (by decide +kernel) (pa_cons (pe_ix ix_list (pv 0) pe_int (fun _ _ => rfl)) pa_nil)) pe_int) (fun _ _ => rfl)))
  (pss_cons (ps_set (i := 4) sc_l_take.nd rfl (Or.inl rfl) (pe_op op_mod (pe_callTy call_int1 (by rfl) T.n_int (by decide +kernel) (pa_cons (pe_op op_powW (pe_callTy call_int1 (by rfl) T.n_int (by decide +kernel) (pa_cons (pe_op op_add (pe_op op_add (pe_ix ix_list (pv 0) pe_int (fun _ _ => rfl)) (pe_op op_mulW (pe_op op_mulW pe_int (pe_ix ix_list (pv 0) pe_int (fun _ _ => rfl))) (pe_ix ix_list (pv 0) pe_int (fun _ _ => rfl)))) pe_int) pa_nil)) pe_int) pa_nil)) (pv 3)))
  (pss_cons (ps_set (i := 4) sc_l_take.nd rfl (Or.inl rfl) (pe_op op_mod (pe_callTy call_int1 (by rfl) T.n_int (by decide +kernel) (pa_cons (pe_op op_mulW (pv 4) (pe_op op_add (pe_op op_mod (pe_callTy call_int1 (by rfl) T.n_int (by decide +kernel) (pa_cons (pv 4) pa_nil)) pe_int) (pe_op op_mulW pe_int (pe_ix ix_list (pv 0) pe_int (fun _ _ => rfl))))) pa_nil)) pe_int))
  (pss_one (ps_ret (pe_op op_mod (pe_callTy call_int1 (by rfl) T.n_int (by decide +kernel) (pa_cons (pe_op op_fdivW (pv 4) pe_int) pa_nil)) (pv 1))))))))), ?_⟩
    refine ⟨.ref p, rfl, p, _, 0, _, rfl, rfl, SqL.of hp, rfl, ?_⟩
    refine ⟨a, 0, rfl, rfl, _, rfl, ?_⟩
    refine ite2 (fun ha => ?_) (fun ha => ?_)
    · have ha : 0 < a := of_decide_eq_true ha
      refine ⟨.ref p, rfl, p, _, 0, _, rfl, rfl, SqL.of hp, rfl, ?_⟩
      refine .inl ⟨a, rfl, ?_⟩
      refine ⟨.int u, rfl, a, u, rfl, rfl, u0, ?_⟩
      refine ⟨.ref p, rfl, p, _, 0, _, rfl, rfl, SqL.of hp, rfl, ?_⟩
      refine ⟨.int u, rfl, a, u, rfl, rfl, wide_div (b := 60) u0 (by omega) (by decide) (by decide), ?_⟩
      refine ⟨.ref p, rfl, p, _, 0, 0, rfl, rfl, hp, rfl, ?_⟩
      refine ⟨_, rfl, ?_⟩
      refine q _ _ (Int.emod_nonneg _ (by omega)) (Int.emod_lt_of_pos _ u0) ⟨kp_self, a / u, b, c, upd_same, Int.ediv_nonneg a0 (by omega), ?_, b0, b1, c0, by omega⟩
      exact Int.lt_of_le_of_lt (Int.ediv_le_self _ a0) a1
    · refine ⟨.ref p, rfl, p, _, 2, _, rfl, rfl, SqL.of hp, rfl, ?_⟩
      refine ⟨c, 1, rfl, rfl, ?_⟩
      refine ⟨.ref p, rfl, p, _, 2, 2, rfl, rfl, hp, rfl, ?_⟩
      refine ⟨by decide, fun l hl => ?_⟩
      have npl : p ≠ l := fun e => by
        rw [← e, upd_same] at hl
        cases hl
      have hp1 : (upd (upd H p (.lst [.int a, .int b, .int (c + 1)])) l (.lst [.int 2147483647, .int 2147483629, .int 2147483587, .int 2147483579, .int 2147483563])) p = some (.lst [.int a, .int b, .int (c + 1)]) := by
        rw [upd_ne npl, upd_same]
      refine ⟨.ref p, rfl, p, _, 2, _, rfl, rfl, SqL.of hp1, rfl, ?_⟩
      refine .inl ⟨c + 1, rfl, ?_⟩
      refine ⟨c + 1, 5, rfl, rfl, (by show (0 : Int) < 5; decide), ?_⟩
      have h5 : ∃ (m : Nat) (pr : Int), (c + 1) % 5 = (m : Int) ∧ ([V.int 2147483647, .int 2147483629, .int 2147483587, .int 2147483579, .int 2147483563])[m]? = some (.int pr) ∧ 0 < pr ∧ pr < 2 ^ 31 := by
        have e0 := Int.emod_nonneg (c + 1) (show (5 : Int) ≠ 0 by decide)
        have e1 := Int.emod_lt_of_pos (c + 1) (show (0 : Int) < 5 by decide)
        rcases (show (c + 1) % 5 = 0 ∨ (c + 1) % 5 = 1 ∨ (c + 1) % 5 = 2 ∨ (c + 1) % 5 = 3 ∨ (c + 1) % 5 = 4 by omega) with e | e | e | e | e
        · exact ⟨0, _, e, rfl, by decide, by decide⟩
        · exact ⟨1, _, e, rfl, by decide, by decide⟩
        · exact ⟨2, _, e, rfl, by decide, by decide⟩
        · exact ⟨3, _, e, rfl, by decide, by decide⟩
        · exact ⟨4, _, e, rfl, by decide, by decide⟩
      obtain ⟨m, pr, em, hm, pr0, pr1⟩ := h5
      refine ⟨l, _, (m : Int), _, rfl, congrArg V.int em, SqL.of upd_same, atI_nat hm, ?_⟩
      refine ⟨.ref p, rfl, p, _, 1, _, rfl, rfl, SqL.of hp1, rfl, ?_⟩
      have hc2 : (c + 1) * (c + 1) ≤ 1000000 * 1000000 := Int.mul_le_mul (by omega) (by omega) (by omega) (by decide)
      have hc3 : 0 ≤ (c + 1) * (c + 1) := Int.mul_nonneg (by omega) (by omega)
      refine ⟨.ref p, rfl, p, _, 2, _, rfl, rfl, SqL.of hp1, rfl, ?_⟩
      refine ⟨_, _, rfl, rfl, wide_mul (a := 30) (b := 30) (by decide) (by omega) (by decide) (by decide) (by decide), ?_⟩
      refine ⟨.ref p, rfl, p, _, 2, _, rfl, rfl, SqL.of hp1, rfl, ?_⟩
      refine ⟨_, _, rfl, rfl, wide_mul (a := 60) (b := 30) (by omega) (by omega) (by decide) (by decide) (by decide), ?_⟩
      refine ⟨_, _, rfl, rfl, ?_⟩
      refine ⟨_, _, rfl, rfl, ?_⟩
      refine .inl ⟨_, rfl, ?_⟩
      refine ⟨_, _, rfl, rfl, pow3 ?_, ?_⟩
      · rw [Int.mul_assoc]
        omega
      refine .inl ⟨_, rfl, ?_⟩
      refine ⟨_, rfl, _, _, rfl, rfl, pr0, ?_⟩
      have xb : ∀ y : Int, (y % pr).natAbs < 2 ^ 60 := fun y => by
        have z1 := Int.emod_nonneg y (show pr ≠ 0 by omega)
        have z2 := Int.emod_lt_of_pos y pr0
        omega
      refine ⟨_, rfl, _, rfl, .inl ⟨_, rfl, ?_⟩⟩
      refine ⟨_, 10964, rfl, rfl, (by show (0 : Int) < 10964; decide), ?_⟩
      refine ⟨.ref p, rfl, p, _, 2, _, rfl, rfl, SqL.of hp1, rfl, ?_⟩
      refine ⟨_, _, rfl, rfl, wide_mul (a := 30) (b := 30) (by decide) (by omega) (by decide) (by decide) (by decide), ?_⟩
      refine ⟨_, _, rfl, rfl, ?_⟩
      refine ⟨_, _, rfl, rfl, wide_mul (a := 60) (b := 90) (xb _) (by omega) (by decide) (by decide) (by decide), ?_⟩
      refine .inl ⟨_, rfl, ?_⟩
      refine ⟨_, 2305843009213693907, rfl, rfl, (by show (0 : Int) < 2305843009213693907; decide), ?_⟩
      refine ⟨_, rfl, ?_⟩
      refine ⟨_, _, rfl, rfl, wide_div (b := 60) (by decide) (by decide) (by decide) (by decide), ?_⟩
      refine .inl ⟨_, rfl, ?_⟩
      refine ⟨.int u, rfl, _, _, rfl, rfl, u0, ?_⟩
      refine q _ _ (Int.emod_nonneg _ (by omega)) (Int.emod_lt_of_pos _ u0) ⟨?_, a, b, c + 1, hp1, a0, a1, b0, b1, by omega, by omega⟩
      intro z o nz hz
      have nzl : z ≠ l := fun e => by
        rw [← e, upd_ne nz, hz] at hl
        cases hl
      rw [upd_ne nzl, upd_ne nz]
      exact hz
end
end OG
set_option Elab.async false
set_option linter.all false
set_option maxRecDepth 100000
set_option maxHeartbeats 4000000
namespace OG
open PySem PySem.Spec PyProof.Rows L2
theorem Kp.seq {K : PySem.W.Frag} {p : Addr} {H H' : Hp} {a : Addr} {xs : List V} (e : Kp p H H') (n : a ≠ p) (h : SqL K H a xs) : SqL K H' a xs := by
  rcases h with (h | ⟨o, h⟩) | h
  · exact .inl (.inl (e _ _ n h))
  · exact .inl (.inr ⟨o, e _ _ n h⟩)
  · exact .inr h
theorem Kp.seqT {K : PySem.W.Frag} {p : Addr} {H H' : Hp} {a : Addr} {xs : List V} (e : Kp p H H') (n : a ≠ p) (h : SqT K H a xs) : SqT K H' a xs := by
  rcases h with (h | ⟨o, h⟩) | h
  · exact .inl (.inl (e _ _ n h))
  · exact .inl (.inr ⟨o, e _ _ n h⟩)
  · exact .inr h
theorem Pot.ne {k : Nat} {H : Hp} {p l : Addr} (h : Pot k H p) (n : H l = none) : l ≠ p := fun e => by
  obtain ⟨o, ho⟩ := h.ex
  rw [e, ho] at n
  cases n
theorem Pot.neT {k : Nat} {H : Hp} {p l : Addr} {xs : List V} (h : Pot k H p) (n : H l = some (.tup xs)) : l ≠ p := fun e => by
  obtain ⟨a, b, c, ho, _⟩ := h
  rw [e, ho] at n
  cases n
theorem Pot.neD {k : Nat} {H : Hp} {p l : Addr} {xs : List (Key × V)} (h : Pot k H p) (n : H l = some (.dK xs)) : l ≠ p := fun e => by
  obtain ⟨a, b, c, ho, _⟩ := h
  rw [e, ho] at n
  cases n
theorem Dr.start {k j : Nat} {H : Hp} {p : Addr} (h : Pot k H p) (e : j ≤ k) : Dr p j H H := ⟨Kp.refl _ _, h.mono e⟩
theorem Dr.trans {k j : Nat} {H H1 H2 : Hp} {p : Addr} (a : Dr p k H H1) (b : Dr p j H1 H2) : Dr p j H H2 := ⟨a.1.trans b.1, b.2⟩
theorem Dr.mono {k j : Nat} {H H1 : Hp} {p : Addr} (a : Dr p k H H1) (e : j ≤ k) : Dr p j H H1 := ⟨a.1, a.2.mono e⟩
theorem Dr.fr {k : Nat} {H H' : Hp} {p l : Addr} (d : Dr p k H H') (n : H' l = none) : H l = none := by
  cases e : H l with
  | none => rfl
  | some o =>
    rw [d.1 _ _ (d.2.ne n) e] at n
    cases n
theorem Dr.new {k : Nat} {H H1 : Hp} {p l : Addr} {o : HO} (d : Dr p k H H1) (n : H1 l = none) : Dr p k H (upd H1 l o) :=
  ⟨d.1.trans (Same.kp (same_new n)), d.2.same (same_new n)⟩
theorem Dr.mut {k : Nat} {H H1 : Hp} {p l : Addr} {o : HO} (d : Dr p k H H1) (n : H l = none) (e : l ≠ p) : Dr p k H (upd H1 l o) := by
  refine ⟨fun b x q h => ?_, ?_⟩
  · rw [upd_ne (ne_of_none h n)]
    exact d.1 b x q h
  · obtain ⟨a, b, c, h1, h2⟩ := d.2
    refine ⟨a, b, c, ?_, h2⟩
    rw [upd_ne e.symm]
    exact h1
theorem Dr.st {k : Nat} {H H1 : Hp} {p b : Addr} {o : HO} (d : Dr p k H H1) (n : b ≠ p) (h : H b = some o) : H1 b = some o := d.1 _ _ n h
section
variable {P : Program} {w : World} {K : PySem.W.Frag} {mg : Str → Option Value} {base : Heap}
def spOf (K : PySem.W.Frag) : Sp := fun vs H Q _ => ∃ (p l : Addr) (xs : List V) (k : Nat), vs = [.ref p, .ref l] ∧ Pot (k + 1) H p ∧ SqL K H l xs ∧ l ≠ p ∧ 0 < xs.length ∧ xs.length < 100000 ∧
  ∀ (i : Nat) (x : V) (H' : Hp), xs[i]? = some x → Dr p k H H' → Q x H'
theorem ok_l_of (T : Txt K mg) : FnOk P w K mg base CX0 2 T.f_l_of T.fd_l_of ["pot", "some"] (spOf K) := by
  refine T.F_l_of.ok sc_l_of (fun vs H Q E h => ?_) (fun cdv A outer s H vs Q E hr h => ?_)
  · obtain ⟨p, l, xs, k, rfl, _⟩ := h
    rfl
  · obtain ⟨p, l, xs, k, rfl, hP, hL, nlp, l0, l1, q⟩ := h
    refine ⟨_, (pss_one (ps_ret (pe_ix ix_list (pv 1) (pe_call (ok_l_take T) (hr.mono (by decide)) (by rfl) T.g_l_take T.F_l_take.kp T.b_l_take .nil pass0 (pa_cons (pv 0) (pa_cons (pe_callB call_len_seq (by rfl) T.n_len PySem.boot_len (pa_cons (pv 1) pa_nil)) pa_nil))) (fun _ _ => rfl)))), ?_⟩
    refine ⟨.ref l, rfl, .ref p, rfl, .ref l, rfl, l, _, rfl, .inl hL, ?_⟩
    refine ⟨p, xs.length, k, rfl, hP, by omega, by omega, fun r H' r0 r1 d => ?_⟩
    have hr1 : r.toNat < xs.length := by omega
    have hx : xs[r.toNat]? = some (xs[r.toNat]) := List.getElem?_eq_getElem hr1
    refine ⟨l, xs, (r.toNat : Int), _, rfl, congrArg V.int (by omega), d.1.seq nlp hL, atI_nat hx, q _ _ _ hx d⟩
theorem seq_nat {n k : Nat} (h : k < n) : seqIndex? (k : Int) n = some k := by
  have e0 : ¬ ((k : Int) < 0) := by omega
  have e1 : (k : Int) < (n : Int) := by omega
  have e2 : (0 : Int) ≤ (k : Int) := by omega
  simp only [seqIndex?, if_neg e0, e1, e2, decide_true, Bool.and_self, if_true, Int.toNat_natCast]
def spSome (K : PySem.W.Frag) : Sp := fun vs H Q _ => ∃ (p l : Addr) (xs : List V) (m k : Nat), vs = [.ref p, .ref l, .int (m : Int)] ∧ Pot (k + m) H p ∧ SqL K H l xs ∧ l ≠ p ∧ m ≤ xs.length ∧ xs.length < 1000 ∧
  ∀ (q : Addr) (ys zs : List V) (H' : Hp), ys.length = m → (ys ++ zs).Perm xs → Dr p k H H' → H q = none → q ≠ p → H' q = some (.lst ys) → Q (.ref q) H'
theorem perm_pop {α : Type} : ∀ {ls : List α} {k : Nat} {y : α}, ls[k]? = some y → (y :: ls.eraseIdx k).Perm ls
  | [], k, y, h => by simp at h
  | a :: r, 0, y, h => by
    have e : a = y := Option.some.inj h
    rw [e]
    exact List.Perm.refl _
  | a :: r, k + 1, y, h => by
    have ih := perm_pop (ls := r) (k := k) (y := y) h
    exact (List.Perm.swap a y _).trans (ih.cons a)
theorem ok_l_some (T : Txt K mg) : FnOk P w K mg base CX0 2 T.f_l_some T.fd_l_some ["pot", "pool", "many"] (spSome K) := by
  refine T.F_l_some.ok sc_l_some (fun vs H Q E h => ?_) (fun cdv A outer s H vs Q E hr h => ?_)
  · obtain ⟨p, l, xs, m, k, rfl, _⟩ := h
    rfl
  · obtain ⟨p, l, xs, m, k, rfl, hP, hL, nlp, hm, l1, q⟩ := h
    refine ⟨_, (pss_cons (ps_par (i := 3) (j := 4) (by rfl) sc_l_some.nd rfl rfl (by decide) rfl rfl (pa_cons (pe_callTy call_list_of (by rfl) T.n_list (by decide +kernel) (pa_cons (pv 1) pa_nil)) (pa_cons (pe_lst pa_nil) pa_nil)) (by rfl))
  (pss_cons (ps_for PassesOwn.never rfl (pi_range1 (by rfl) T.n_range (pa_cons (pv 2) pa_nil)) (pg_name (i := 5) sc_l_some.nd rfl (Or.inl rfl)) (pss_one (ps_expr (pe_bm PySem.F.plainAttrs_list PySem.F.slot_list_append PySem.F.type_list_append mt_append (pv 4) (pa_cons (pe_bm PySem.F.plainAttrs_list PySem.F.slot_list_pop PySem.F.type_list_pop mt_popAt (pv 3) (pa_cons (pe_call (ok_l_take T) (hr.mono (by decide)) (by rfl) T.g_l_take T.F_l_take.kp T.b_l_take .nil pass0 (pa_cons (pv 0) (pa_cons (pe_callB call_len_seq (by rfl) T.n_len PySem.boot_len (pa_cons (pv 3) pa_nil)) pa_nil))) pa_nil)) pa_nil)))))
  (pss_one (ps_ret (pv 4))))), ?_⟩
    refine ⟨.ref l, rfl, l, xs, rfl, .inl hL, fun e he => ?_⟩
    refine ⟨Nat.zero_le _, fun o ho => ?_⟩
    refine ⟨_, _, rfl, ?_⟩
    have ho' : H o = none := by
      cases z : H o with
      | none => rfl
      | some u =>
        rw [same_new he _ _ z] at ho
        cases ho
    have neo : o ≠ e := fun z => by
      rw [z, upd_same] at ho
      cases ho
    have nep : e ≠ p := hP.ne he
    have nop : o ≠ p := hP.ne ho'
    refine ⟨.int m, rfl, m, rfl, (by omega), (by omega), ?_⟩
    rw [show ((m : Int)).toNat = m from rfl]
    refine for_range (n := m) (fun i σ H' => ∃ (v : Option V) (ys ls : List V), σ = [some (.ref p), some (.ref l), some (.int m), some (.ref e), some (.ref o), v] ∧ i ≤ m ∧ Dr p (k + (m - i)) H H' ∧ H' e = some (.lst ls) ∧ H' o = some (.lst ys) ∧ (ys ++ ls).Perm xs ∧ ys.length = i)
      ⟨none, [], xs, rfl, Nat.zero_le _, ((Dr.start hP (by omega)).new he).new ho, by rw [upd_ne neo.symm, upd_same], upd_same, List.Perm.refl _, rfl⟩ ?_ ?_
    · rintro i σ H' hi ⟨v, ys, ls, rfl, _, d, h1, h2, pm, hl⟩
      have len := pm.length_eq
      rw [List.length_append] at len
      refine ⟨.ref o, rfl, .inl ⟨rfl, _, SqL.of h2⟩, .ref e, rfl, .inl ⟨rfl, _, SqL.of h1⟩, .ref p, rfl, .ref e, rfl, e, _, rfl, .inl (SqL.of h1), ?_⟩
      refine ⟨p, ls.length, k + (m - (i + 1)), rfl, d.2.mono (by omega), by omega, by omega, fun r H1 r0 r1 d1 => ?_⟩
      have hr1 : r.toNat < ls.length := by omega
      have hx : ls[r.toNat]? = some (ls[r.toNat]) := List.getElem?_eq_getElem hr1
      refine ⟨e, ls, r, r.toNat, _, rfl, rfl, d1.st nep h1, by omega, by omega, ?_, hx, ?_⟩
      · have z := seq_nat (n := ls.length) (k := r.toNat) hr1
        rw [show ((r.toNat : Nat) : Int) = r by omega] at z
        exact z
      refine ⟨o, ys, _, rfl, rfl, by rw [upd_ne neo]; exact d1.st nop h2, small1000 (by omega), ?_⟩
      refine ⟨_, ys ++ [ls[r.toNat]], ls.eraseIdx r.toNat, rfl, hi, (((d.trans d1).mut he nep).mut ho' nop), by rw [upd_ne neo.symm, upd_same], upd_same, ?_, by rw [List.length_append, hl]; rfl⟩
      rw [List.append_assoc]
      exact ((perm_pop hx).append_left ys).trans pm
    · rintro σ H' ⟨v, ys, ls, rfl, _, d, h1, h2, pm, hl⟩
      rw [Nat.sub_self] at d
      exact ⟨_, rfl, q o ys ls H' hl pm d ho' nop h2⟩
end
end OG
set_option Elab.async false
set_option linter.all false
set_option maxRecDepth 100000
set_option maxHeartbeats 4000000
namespace OG
open PySem PySem.Spec PyProof.Rows L2
def sgn (c : Nat) : V := .str ⟨#[c]⟩
def rListT : List V → Hp → VK → Prop := fun xs H Q => ∃ z : Str, xs = [.str z] ∧ z.length ≤ sizeLine ∧ ∀ q, H q = none → Q (.ref q) (upd H q (.lst (z.cps.toList.map sgn)))
theorem call_list_text {X : Cx} (hc : X.calm = true) : CallR X (.type "list") rListT := by
  intro pins s σ H xs us Q I r h
  obtain ⟨z, e, hz, q⟩ := h
  subst e
  obtain ⟨u, eu, rx⟩ := vals1 r
  subst eu
  obtain ⟨t, rfl⟩ := rx
  have hz' : z.cps.size ≤ sizeLine := hz
  refine PySem.call_list_str (hn := hz') (I.ok.hd hc) z t fun h' tk acc' c' hkeep hS hacc => ?_
  refine ⟨.ref s.heap.objs.size, upd H s.heap.objs.size (.lst (z.cps.toList.map sgn)), I.laid hkeep (Nat.le_refl _) (show ObjOk X.prog X.w _ _ _ (.lst (z.cps.toList.map sgn)) from ⟨?_, acc'.toList, c', ?_, ?_⟩), rfl, q _ (I.hok.fresh (Nat.le_refl _))⟩
  · rw [List.length_map, Array.length_toList]; exact hz'
  · have el : acc'.toList.length = acc'.size := by simp
    refine vals_of_at (by rw [List.length_map, el, hacc.1, Array.length_toList]) fun j x w h1 h2 => ?_
    have hi := hacc.2 j w (by rw [← Array.getElem?_toList]; exact h2)
    obtain ⟨c, u, hc1, rfl⟩ := hi
    rw [List.getElem?_map, Array.getElem?_toList, hc1] at h1
    have e1 : sgn c = x := Option.some.inj h1
    rw [← e1]
    exact ⟨u, rfl⟩
  · rw [Array.toArray_toList]; exact hS
end OG
set_option Elab.async false
set_option linter.all false
set_option maxRecDepth 100000
set_option maxHeartbeats 4000000
namespace OG
open PySem PySem.Spec PyProof.Rows L2
/-! names: mathematics -/
def mk (l : List Nat) : Str := ⟨l.toArray⟩
theorem mk_tl (l : List Nat) : (mk l).cps.toList = l := by simp [mk]
theorem mk_len (l : List Nat) : (mk l).length = l.length := by simp [mk, Str.length]
theorem tl_mk (z : Str) : mk z.cps.toList = z := by
  unfold mk
  rw [Array.toArray_toList]
theorem mk_inj {a b : List Nat} (h : mk a = mk b) : a = b := by
  have e := congrArg (fun z : Str => z.cps.toList) h
  simpa [mk] using e
theorem sgn_mk (c : Nat) : sgn c = .str (mk [c]) := rfl
theorem sgn_inj {a b : Nat} (h : sgn a = sgn b) : a = b := by
  have e := mk_inj (V.str.inj h)
  exact List.head_eq_of_cons_eq e
def abc : List Nat := [97, 98, 99, 100, 101, 102, 103, 104, 105, 106, 107, 108, 109, 110, 111, 112, 113, 114, 115, 116, 117, 118, 119, 120, 121, 122]
theorem abc_tl : ("abcdefghijklmnopqrstuvwxyz" : Str).cps.toList = abc := by decide +kernel
theorem map_sgn_pick : ∀ {ys : List V}, (∀ y ∈ ys, y ∈ abc.map sgn) → ∃ cs : List Nat, ys = cs.map sgn ∧ ∀ c ∈ cs, c ∈ abc
  | [], _ => ⟨[], rfl, fun _ h => by cases h⟩
  | y :: r, h => by
    obtain ⟨cs, e, k⟩ := map_sgn_pick (ys := r) fun z hz => h z (List.mem_cons_of_mem _ hz)
    obtain ⟨c, hc, hy⟩ := List.mem_map.mp (h y List.mem_cons_self)
    refine ⟨c :: cs, by rw [e, ← hy]; rfl, fun z hz => ?_⟩
    rcases List.mem_cons.mp hz with q | q
    · rw [q]; exact hc
    · exact k z q
theorem abc_nodup : (abc.map sgn).Nodup := by
  have h : abc.Nodup := by decide
  unfold List.Nodup at h ⊢
  rw [List.pairwise_map]
  exact h.imp fun n e => n (sgn_inj e)
theorem pick {ys zs : List V} (pm : (ys ++ zs).Perm (abc.map sgn)) : ∃ cs : List Nat, ys = cs.map sgn ∧ cs.Nodup ∧ ∀ c ∈ cs, c ∈ abc := by
  obtain ⟨cs, e, k⟩ := map_sgn_pick (ys := ys) fun y hy => pm.mem_iff.mp (List.mem_append_left _ hy)
  have nd : (ys ++ zs).Nodup := pm.nodup_iff.mpr abc_nodup
  have n1 : ys.Nodup := (List.nodup_append.mp nd).1
  rw [e] at n1
  refine ⟨cs, e, ?_, k⟩
  unfold List.Nodup at n1 ⊢
  rw [List.pairwise_map] at n1
  exact n1.imp fun n q => n (congrArg sgn q)
/-- a NAME of a book -/
def IsNm (z : Str) : Prop := 1 ≤ z.length ∧ z.length ≤ 4 ∧ ∀ c ∈ z.cps.toList, c ∈ abc
def nm (bs : List Nat) (at_ c : Nat) : List Nat := bs.take at_ ++ c :: bs.drop (at_ + 1)
theorem nm_len {bs : List Nat} {a c : Nat} (h : a < bs.length) : (nm bs a c).length = bs.length := by
  unfold nm
  rw [List.length_append, List.length_cons, List.length_take, List.length_drop]
  omega
theorem nm_at {bs : List Nat} {a c : Nat} (h : a < bs.length) : (nm bs a c)[a]? = some c := by
  unfold nm
  rw [List.getElem?_append_right (by rw [List.length_take]; omega), List.length_take, show a - min a bs.length = 0 by omega]
  rfl
theorem nm_mem {bs : List Nat} {a c z : Nat} (hb : ∀ x ∈ bs, x ∈ abc) (hc : c ∈ abc) (h : z ∈ nm bs a c) : z ∈ abc := by
  unfold nm at h
  rcases List.mem_append.mp h with h | h
  · exact hb _ (List.mem_of_mem_take h)
  · rcases List.mem_cons.mp h with h | h
    · rw [h]; exact hc
    · exact hb _ (List.mem_of_mem_drop h)
theorem nm_is {bs : List Nat} {a c : Nat} (hb : ∀ x ∈ bs, x ∈ abc) (hc : c ∈ abc) (h : a < bs.length) (h4 : bs.length ≤ 4) : IsNm (mk (nm bs a c)) := by
  refine ⟨?_, ?_, fun z hz => ?_⟩
  · rw [mk_len, nm_len h]; omega
  · rw [mk_len, nm_len h]; exact h4
  · rw [mk_tl] at hz
    exact nm_mem hb hc hz
theorem joinL_ones : ∀ l : List Nat, TL.joinL [] (l.map fun c => [c]) = l
  | [] => rfl
  | [_] => rfl
  | a :: b :: r => by
    show [a] ++ ([] ++ TL.joinL [] ((b :: r).map fun c => [c])) = a :: b :: r
    rw [joinL_ones (b :: r)]
    rfl
theorem join_ones (l : List Nat) : Txt.join "" (l.map fun c => mk [c]) = mk l := by
  have e := TL.tl_join "" (l.map fun c => mk [c])
  have e2 : (l.map fun c => mk [c]).map TL.tl = l.map fun c => [c] := by
    rw [List.map_map]
    rfl
  rw [e2] at e
  have e3 : TL.tl "" = [] := rfl
  rw [e3, joinL_ones] at e
  have e4 := (congrArg TL.tl (TL.join_eq "" (l.map fun c => mk [c]))).trans e
  exact TL.ext_tl (e4.trans (mk_tl l).symm)
theorem cut_to {xs : List V} {n : Nat} : cutV xs none (some (n : Int)) = xs.take n := by
  unfold cutV
  rw [HT.sIx_none, HT.sIx_nat, List.drop_zero, Nat.sub_zero]
  rw [List.take_eq_take_iff]
  omega
theorem cut_from {xs : List V} {n : Nat} : cutV xs (some (n : Int)) none = xs.drop n := by
  unfold cutV
  rw [HT.sIx_none, HT.sIx_nat]
  by_cases h : n ≤ xs.length
  · rw [Nat.min_eq_left h]
    exact List.take_of_length_le (by rw [List.length_drop]; exact Nat.le_refl _)
  · rw [Nat.min_eq_right (by omega), List.drop_eq_nil_of_le (Nat.le_refl _), List.drop_eq_nil_of_le (by omega)]
    simp
/-- what book_names tells -/
structure Nms (ns : List Str) (m : Nat) : Prop where
  len : ns.length = m
  nd : ns.Nodup
  is : ∀ z ∈ ns, IsNm z
theorem nms_of {cs : List Nat} {ns : List Str} {a : Nat} (h1 : cs.Nodup) (h2 : ns.length = cs.length) (h3 : ∀ (i : Nat) (z : Str), ns[i]? = some z → z.cps.toList[a]? = cs[i]?) (h4 : ∀ z ∈ ns, IsNm z) : Nms ns cs.length := by
  refine ⟨h2, ?_, h4⟩
  have e : ns.map (fun z => z.cps.toList[a]?) = cs.map some := by
    refine List.ext_getElem? fun i => ?_
    rw [List.getElem?_map, List.getElem?_map]
    cases q : ns[i]? with
    | none =>
      have q1 : cs[i]? = none := by
        rw [List.getElem?_eq_none_iff] at q ⊢
        omega
      rw [q1]
      rfl
    | some z =>
      have q1 : i < cs.length := by
        have := (List.getElem?_eq_some_iff.mp q).1
        omega
      show some (z.cps.toList[a]?) = _
      rw [h3 i z q, List.getElem?_eq_getElem q1]
      rfl
  have n2 : (ns.map (fun z => z.cps.toList[a]?)).Nodup := by
    rw [e]
    unfold List.Nodup at h1 ⊢
    rw [List.pairwise_map]
    exact h1.imp fun n q => n (Option.some.inj q)
  unfold List.Nodup at n2 ⊢
  rw [List.pairwise_map] at n2
  exact n2.imp fun n q => n (congrArg (fun z : Str => z.cps.toList[a]?) q)
end OG
set_option Elab.async false
set_option linter.all false
set_option maxRecDepth 100000
set_option maxHeartbeats 4000000
namespace OG
open PySem PySem.Spec PyProof.Rows L2
section
variable {P : Program} {w : World} {K : PySem.W.Frag} {mg : Str → Option Value} {base : Heap}
def spNames : Sp := fun vs H Q _ => ∃ (p : Addr) (m k : Nat), vs = [.ref p, .int (m : Int)] ∧ Pot (k + 100) H p ∧ m ≤ 5 ∧
  ∀ (q : Addr) (ns : List Str) (H' : Hp), Nms ns m → Dr p k H H' → H q = none → q ≠ p → H' q = some (.tup (ns.map V.str)) → Q (.ref q) H'
theorem ne_new {H : Hp} {p l : Addr} {o : HO} (h : (upd H l o) p = none) : p ≠ l := fun z => by
  rw [z, upd_same] at h
  cases h
theorem ok_l_book_names (T : Txt K mg) : FnOk P w K mg base CX0 3 T.f_l_book_names T.fd_l_book_names ["pot", "many"] (spNames) := by
  refine T.F_l_book_names.ok sc_l_book_names (fun vs H Q E h => ?_) (fun cdv A outer s H vs Q E hr h => ?_)
  · obtain ⟨p, m, k, rfl, _⟩ := h
    rfl
  · obtain ⟨p, m, k, rfl, hP, hm, q⟩ := h
    refine ⟨_, (pss_cons (ps_par (i := 2) (j := 3) (by rfl) sc_l_book_names.nd rfl rfl (by decide) rfl rfl (pa_cons (pe_call (ok_l_take T) (hr.mono (by decide)) (by rfl) T.g_l_take T.F_l_take.kp T.b_l_take .nil pass0 (pa_cons (pv 0) (pa_cons pe_int pa_nil))) (pa_cons (pe_cmpR op_eq (pe_call (ok_l_take T) (hr.mono (by decide)) (by rfl) T.g_l_take T.F_l_take.kp T.b_l_take .nil pass0 (pa_cons (pv 0) (pa_cons pe_int pa_nil))) pe_int (nomark _)) pa_nil)) (by rfl))
  (pss_cons (ps_set (i := 4) sc_l_book_names.nd rfl (Or.inr rfl) (pe_callTy (call_list_text rfl) (by rfl) T.n_list (by decide +kernel) (pa_cons pe_str pa_nil)))
  (pss_cons (ps_par (i := 5) (j := 6) (by rfl) sc_l_book_names.nd rfl rfl (by decide) rfl rfl (pa_cons (pe_call (ok_l_some T) (hr.mono (by decide)) (by rfl) T.g_l_some T.F_l_some.kp T.b_l_some .nil pass0 (pa_cons (pv 0) (pa_cons (pv 4) (pa_cons (pv 1) pa_nil)))) (pa_cons (pe_op op_add (pe_op op_add (pv 2) pe_int) (pe_call (ok_l_take T) (hr.mono (by decide)) (by rfl) T.g_l_take T.F_l_take.kp T.b_l_take .nil pass0 (pa_cons (pv 0) (pa_cons (pe_op op_sub pe_int (pv 2)) pa_nil)))) pa_nil)) (by rfl))
  (pss_cons (ps_par (i := 7) (j := 8) (by rfl) sc_l_book_names.nd rfl rfl (by decide) rfl rfl (pa_cons (pe_lc (own := [("lap", 10)]) (g := gName 10) (by rfl) sc_l_book_names.nd (pi_range1 (by rfl) T.n_range (pa_cons (pv 6) pa_nil)) (blkOk_by (own := [("lap", 10)]) (by rfl)) (fun _ _ _ _ _ => (pg_name (i := 10) sc_l_book_names.nd rfl (Or.inl rfl))) (fun _ _ _ _ _ => pts_nil) (fun _ _ _ _ _ => (pe_call (ok_l_of T) (hr.mono (by decide)) (by rfl) T.g_l_of T.F_l_of.kp T.b_l_of .nil pass0 (pa_cons (pv 0) (pa_cons (pv 4) pa_nil))))) (pa_cons (pe_lst pa_nil) pa_nil)) (by rfl))
  (pss_cons (ps_for PassesOwn.never rfl (pi_list (pv 5)) (pg_name (i := 9) sc_l_book_names.nd rfl (Or.inl rfl)) (pss_cons (ps_if (pt_not (pt_val (pv 3))) (pss_one (ps_setLc (i := 7) (own := [("lap", 10)]) (g := gName 10) (by rfl) sc_l_book_names.nd rfl rfl (sw_true rfl rfl rfl (by decide +kernel)) (pi_range1 (by rfl) T.n_range (pa_cons (pe_op op_add (pe_op op_add (pv 2) pe_int) (pe_call (ok_l_take T) (hr.mono (by decide)) (by rfl) T.g_l_take T.F_l_take.kp T.b_l_take .nil pass0 (pa_cons (pv 0) (pa_cons (pe_op op_sub pe_int (pv 2)) pa_nil)))) pa_nil)) (blkOk_by (own := [("lap", 10)]) (by rfl)) (fun _ _ _ _ _ => (pg_name (i := 10) sc_l_book_names.nd rfl (Or.inl rfl))) (fun _ _ _ _ _ => pts_nil) (fun _ _ _ _ _ => (pe_call (ok_l_of T) (hr.mono (by decide)) (by rfl) T.g_l_of T.F_l_of.kp T.b_l_of .nil pass0 (pa_cons (pv 0) (pa_cons (pv 4) pa_nil)))))) pss_nil)
  (pss_one (ps_expr (pe_bm PySem.F.plainAttrs_list PySem.F.slot_list_append PySem.F.type_list_append mt_append (pv 8) (pa_cons (pe_join pe_str (pe_op op_cat (pe_op op_cat (pe_slice sl_list (pv 7) po_none (po_some (pv 2))) (pe_lst (pa_cons (pv 9) pa_nil))) (pe_slice sl_list (pv 7) (po_some (pe_op op_add (pv 2) pe_int)) po_none))) pa_nil))))))
  (pss_one (ps_ret (pe_callTy call_tuple_of (by rfl) T.n_tuple (by decide +kernel) (pa_cons (pv 8) pa_nil))))))))), ?_⟩
    refine ⟨.ref p, rfl, p, 4, k + 99, rfl, hP, by decide, by decide, fun ai H1 a0 a1 d1 => ?_⟩
    refine ⟨.ref p, rfl, p, 2, k + 98, rfl, d1.2, by decide, by decide, fun r2 H2 _ _ d2 => ?_⟩
    refine ⟨rfl, _, _, rfl, ?_⟩
    have d2 := d1.trans d2
    obtain ⟨a, rfl⟩ : ∃ a : Nat, ai = (a : Int) := ⟨ai.toNat, by omega⟩
    generalize decide (V.int r2 = V.int 0) = alike
    refine ⟨_, rfl, by decide, fun lt hlt => ?_⟩
    rw [abc_tl]
    have d3 := d2.new (o := .lst (abc.map sgn)) hlt
    have nlp : lt ≠ p := d2.2.ne hlt
    refine ⟨.ref p, rfl, .ref lt, rfl, .int m, rfl, p, lt, abc.map sgn, m, k + 93, rfl, d3.2.mono (by omega), SqL.of upd_same, nlp, Nat.le_trans hm (by decide), by decide, fun tq ys zs H4 hl pm d4 ntq nqp htq => ?_⟩
    obtain ⟨cs, rfl, nd, hcs⟩ := pick pm
    rw [List.length_map] at hl
    have d34 := d3.trans d4
    refine ⟨.int a, rfl, _, _, rfl, rfl, .ref p, rfl, .int a, rfl, _, _, rfl, rfl, p, 4 - (a : Int), k + 92, rfl, d4.2, by omega, by omega, fun b H5 b0 b1 d5 => ?_⟩
    refine ⟨_, _, rfl, rfl, _, _, rfl, ?_⟩
    obtain ⟨n, hn⟩ : ∃ n : Nat, (a : Int) + 1 + b = (n : Int) := ⟨((a : Int) + 1 + b).toNat, by omega⟩
    have hn4 : a < n ∧ n ≤ 4 := by omega
    have hlt5 : H5 lt = some (.lst (abc.map sgn)) := d5.st nlp (d4.st nlp upd_same)
    have htq5 : H5 tq = some (.lst (cs.map sgn)) := d5.st nqp htq
    refine ⟨_, rfl, (n : Int), congrArg (fun z => [V.int z]) hn, (by omega), (by omega), fun D hD => ?_⟩
    have d05 := d34.trans d5
    refine lc_range (lo := 0) (n := n) (fun i H' => i ≤ n ∧ Dr p (k + 92 - i) H5 H' ∧ ∃ bs : List Nat, H' D = some (.lst (bs.map sgn)) ∧ bs.length = i ∧ ∀ c ∈ bs, c ∈ abc) ⟨Nat.zero_le _, (Dr.start d5.2 (by omega)).new hD, [], upd_same, rfl, fun _ h => by cases h⟩ ?_ ?_
    · rintro i H' hi ⟨_, d6, bs, hbs, hbl, hba⟩
      refine ⟨rfl, ?_⟩
      have nDp : D ≠ p := d5.2.ne hD
      refine ⟨.ref p, rfl, .ref lt, rfl, p, lt, abc.map sgn, k + 92 - (i + 1), rfl, d6.2.mono (by omega), SqL.of (d6.st nlp hlt5), nlp, by decide, by decide, fun j x H7 hx d7 => ?_⟩
      rw [List.getElem?_map] at hx
      cases e : abc[j]? with
      | none =>
        rw [e] at hx
        cases hx
      | some c =>
        rw [e] at hx
        have ex : sgn c = x := Option.some.inj hx
        refine ⟨bs.map sgn, d7.st nDp hbs, by rw [List.length_map]; exact small1000 (by omega), hi, (d6.trans d7).mut hD nDp, bs ++ [c], ?_, by rw [List.length_append, hbl]; rfl, fun z hz => ?_⟩
        · rw [upd_same, List.map_append, ← ex]
          rfl
        · rcases List.mem_append.mp hz with z1 | z1
          · exact hba _ z1
          · rw [List.mem_singleton.mp z1]
            exact List.mem_of_getElem? e
    · rintro H6 ⟨_, d6, bs, hbs, hbl, hba⟩
      have nDp : D ≠ p := d5.2.ne hD
      refine ⟨Nat.zero_le _, fun F hF => ?_⟩
      refine ⟨_, _, rfl, ?_⟩
      have hF5 : H5 F = none := d6.fr hF
      have nFp : F ≠ p := d6.2.ne hF
      have nDF : D ≠ F := ne_of_none hbs hF
      refine ⟨.ref tq, rfl, tq, rfl, ⟨_, SqL.of (by rw [upd_ne (ne_of_none (d6.st nqp htq5) hF)]; exact d6.st nqp htq5)⟩, ?_⟩
      refine for_list (K := K) (a := tq) (xs := cs.map sgn) (fun i σ H' => ∃ (D : Addr) (bs : List Nat) (v9 v10 : Option V) (ns : List Str), σ = [some (.ref p), some (.int m), some (.int a), some (.bl alike), some (.ref lt), some (.ref tq), some (.int ((a : Int) + 1 + b)), some (.ref D), some (.ref F), v9, v10] ∧ i ≤ m ∧ Dr p (k + 60 - 10 * i) H5 H' ∧
          H' D = some (.lst (bs.map sgn)) ∧ D ≠ p ∧ H5 D = none ∧ D ≠ F ∧ a < bs.length ∧ bs.length ≤ 4 ∧ (∀ c ∈ bs, c ∈ abc) ∧ H' F = some (.lst (ns.map V.str)) ∧ ns.length = i ∧ (∀ (j : Nat) (z : Str), ns[j]? = some z → z.cps.toList[a]? = cs[j]?) ∧ ∀ z ∈ ns, IsNm z)
        ⟨D, bs, none, none, [], rfl, Nat.zero_le _, (d6.new hF).mono (by omega), by rw [upd_ne nDF]; exact hbs, nDp, hD, nDF, by omega, by omega, hba, upd_same, rfl, fun j z h => by simp at h, fun _ h => by cases h⟩ ?_ ?_ ?_
      · rintro i σ H' _ ⟨D, bs, v9, v10, ns, rfl, _, d, _⟩
        exact SqL.of (d.st nqp htq5)
      · rintro i x σ H' hx ⟨D, bs, v9, v10, ns, rfl, hi, d, hD, nDp, nD5, nDF, ha, hb4, hba, hF, hnl, hnat, hnis⟩
        obtain ⟨c, hci, rfl⟩ : ∃ c, cs[i]? = some c ∧ x = sgn c := by
          rw [List.getElem?_map] at hx
          cases e : cs[i]? with
          | none =>
            rw [e] at hx
            cases hx
          | some c =>
            rw [e] at hx
            exact ⟨c, rfl, (Option.some.inj hx).symm⟩
        have hi5 : i < m := by
          have := (List.getElem?_eq_some_iff.mp hci).1
          omega
        refine ⟨_, rfl, alike, rfl, ?_⟩
        refine ite2 (fun _ => ?_) (fun _ => ?_)
        · -- base = [_law_of(pot, letters) for lap in range(at + 1 + _law_take(pot, 4 - at))]
          refine ⟨.int a, rfl, _, _, rfl, rfl, .ref p, rfl, .int a, rfl, _, _, rfl, rfl, p, 4 - (a : Int), k + 60 - 10 * i - 1, rfl, d.2.mono (by omega), by omega, by omega, fun b2 H8 c0 c1 d8 => ?_⟩
          obtain ⟨n2, hn2⟩ : ∃ n : Nat, (a : Int) + 1 + b2 = (n : Int) := ⟨((a : Int) + 1 + b2).toNat, by omega⟩
          have hn24 : a < n2 ∧ n2 ≤ 4 := by omega
          have d58 := d.trans d8
          have hlt8 : H8 lt = some (.lst (abc.map sgn)) := d58.st nlp hlt5
          have hF8 : H8 F = some (.lst (ns.map V.str)) := d8.st nFp hF
          refine ⟨_, _, rfl, rfl, (n2 : Int), congrArg (fun z => [V.int z]) hn2, (by omega), (by omega), fun D2 hD2 => ?_⟩
          have nDp2 : D2 ≠ p := d8.2.ne hD2
          have nDF2 : D2 ≠ F := fun z => by
            rw [z, hF8] at hD2
            cases hD2
          have nD25 : H5 D2 = none := d58.fr hD2
          refine lc_range (lo := 0) (n := n2) (fun i2 H' => i2 ≤ n2 ∧ Dr p (k + 60 - 10 * i - 1 - i2) H8 H' ∧ ∃ bs : List Nat, H' D2 = some (.lst (bs.map sgn)) ∧ bs.length = i2 ∧ ∀ c ∈ bs, c ∈ abc) ⟨Nat.zero_le _, (Dr.start d8.2 (by omega)).new hD2, [], upd_same, rfl, fun _ h => by cases h⟩ ?_ ?_
          · rintro i2 H' hi2 ⟨_, d6, bs, hbs, hbl, hba⟩
            refine ⟨rfl, ?_⟩
            refine ⟨.ref p, rfl, .ref lt, rfl, p, lt, abc.map sgn, k + 60 - 10 * i - 1 - (i2 + 1), rfl, d6.2.mono (by omega), SqL.of (d6.st nlp hlt8), nlp, by decide, by decide, fun j x H7 hx d7 => ?_⟩
            rw [List.getElem?_map] at hx
            cases e : abc[j]? with
            | none =>
              rw [e] at hx
              cases hx
            | some c =>
              rw [e] at hx
              have ex : sgn c = x := Option.some.inj hx
              refine ⟨bs.map sgn, d7.st nDp2 hbs, by rw [List.length_map]; exact small1000 (by omega), hi2, (d6.trans d7).mut hD2 nDp2, bs ++ [c], ?_, by rw [List.length_append, hbl]; rfl, fun z hz => ?_⟩
              · rw [upd_same, List.map_append, ← ex]
                rfl
              · rcases List.mem_append.mp hz with z1 | z1
                · exact hba _ z1
                · rw [List.mem_singleton.mp z1]
                  exact List.mem_of_getElem? e
          rintro H9 ⟨_, d9, bs2, hbs2, hbl2, hba2⟩
          have d59 := d58.trans d9
          have hF9 : H9 F = some (.lst (ns.map V.str)) := d9.st nFp hF8
          have ha2 : a < bs2.length := by omega
          have hb42 : bs2.length ≤ 4 := by omega
          · refine ⟨.ref F, rfl, .inl ⟨rfl, _, SqL.of hF9⟩, ⟨_, rfl⟩, .ref D2, rfl, .int a, rfl, a, rfl, D2, _, rfl, SqL.of hbs2, fun e1 he1 => ?_⟩
            refine ⟨sgn c, rfl, (by show 1 ≤ sizeLine; decide), fun e2 he2 => ?_⟩
            refine ⟨e1, e2, _, _, rfl, rfl, by rw [upd_ne (ne_new he2).symm, upd_same], upd_same, ?_, fun e3 he3 => ?_⟩
            · rw [cut_to]
              show ((bs2.map sgn).take a).length + 1 ≤ sizeLine
              rw [List.length_take, List.length_map]
              exact Nat.le_trans (show _ ≤ 100 by omega) (by decide)
            have s3 := ((same_new (o := .lst (cutV (bs2.map sgn) none (some (a : Int)))) he1).trans (same_new (o := .lst [sgn c]) he2)).trans (same_new (o := .lst (cutV (bs2.map sgn) none (some (a : Int)) ++ [sgn c])) he3)
            refine ⟨.ref D2, rfl, .int a, rfl, _, _, rfl, rfl, _, rfl, D2, _, rfl, SqL.of (s3 _ _ hbs2), fun e4 he4 => ?_⟩
            refine ⟨e3, e4, _, _, rfl, rfl, by rw [upd_ne (ne_new he4).symm, upd_same], upd_same, ?_, fun e5 he5 => ?_⟩
            · rw [cut_to, show ((a : Int) + 1) = ((a + 1 : Nat) : Int) by omega, cut_from, List.length_append, List.length_take, List.length_drop, List.length_map]
              show min a bs2.length + 1 + _ ≤ _
              exact Nat.le_trans (show _ ≤ 100 by omega) (by decide)
            have s5 := (s3.trans (same_new (o := .lst (cutV (bs2.map sgn) (some ((a : Int) + 1)) none)) he4)).trans (same_new (o := .lst (cutV (bs2.map sgn) none (some (a : Int)) ++ [sgn c] ++ cutV (bs2.map sgn) (some ((a : Int) + 1)) none)) he5)
            have en : cutV (bs2.map sgn) none (some (a : Int)) ++ [sgn c] ++ cutV (bs2.map sgn) (some ((a : Int) + 1)) none = ((nm bs2 a c).map fun c => mk [c]).map V.str := by
              rw [cut_to, show ((a : Int) + 1) = ((a + 1 : Nat) : Int) by omega, cut_from, List.map_map]
              unfold nm
              rw [List.map_append, List.map_cons, List.map_take, List.map_drop, List.append_assoc]
              rfl
            refine ⟨_, e5, (nm bs2 a c).map fun c => mk [c], rfl, rfl, .inl (SqL.of (by rw [upd_same, en])), ?_, ?_⟩
            · have l1 : ((nm bs2 a c).map fun c => mk [c]).map (·.length) = (nm bs2 a c).map fun _ => 1 := by
                rw [List.map_map]
                rfl
              rw [l1, List.map_const', List.sum_replicate_nat, List.length_map, nm_len ha2]
              show bs2.length * 1 + bs2.length * 0 ≤ 16777216
              omega
            refine ⟨F, _, _, rfl, rfl, s5 _ _ hF9, by rw [List.length_map]; exact small1000 (by omega), ?_⟩
            refine ⟨D2, bs2, _, _, ns ++ [mk (nm bs2 a c)], rfl, by omega, ?_, ?_, nDp2, nD25, nDF2, ha2, hb42, hba2, ?_, by rw [List.length_append, hnl]; rfl, ?_, ?_⟩
            · exact Dr.mono (Dr.mut ⟨d59.1.trans (Same.kp s5), d59.2.same s5⟩ hF5 nFp) (by omega)
            · rw [upd_ne nDF2]
              exact s5 _ _ hbs2
            · rw [upd_same, List.map_append, join_ones]
              rfl
            · intro j z hz
              by_cases hj : j < ns.length
              · rw [List.getElem?_append_left hj] at hz
                exact hnat j z hz
              · rw [List.getElem?_append_right (by omega)] at hz
                have hj0 : j - ns.length = 0 := by
                  have := (List.getElem?_eq_some_iff.mp hz).1
                  simp only [List.length_singleton] at this
                  omega
                rw [hj0] at hz
                have ez : mk (nm bs2 a c) = z := Option.some.inj hz
                rw [← ez, mk_tl, nm_at ha2, show j = i by omega, hci]
            · intro z hz
              rcases List.mem_append.mp hz with z1 | z1
              · exact hnis z z1
              · rw [List.mem_singleton.mp z1]
                exact nm_is hba2 (hcs _ (List.mem_of_getElem? hci)) ha2 hb42
        · refine ⟨.ref F, rfl, .inl ⟨rfl, _, SqL.of hF⟩, ⟨_, rfl⟩, .ref D, rfl, .int a, rfl, a, rfl, D, _, rfl, SqL.of hD, fun e1 he1 => ?_⟩
          refine ⟨sgn c, rfl, (by show 1 ≤ sizeLine; decide), fun e2 he2 => ?_⟩
          refine ⟨e1, e2, _, _, rfl, rfl, by rw [upd_ne (ne_new he2).symm, upd_same], upd_same, ?_, fun e3 he3 => ?_⟩
          · rw [cut_to]
            show ((bs.map sgn).take a).length + 1 ≤ sizeLine
            rw [List.length_take, List.length_map]
            exact Nat.le_trans (show _ ≤ 100 by omega) (by decide)
          have s3 := ((same_new (o := .lst (cutV (bs.map sgn) none (some (a : Int)))) he1).trans (same_new (o := .lst [sgn c]) he2)).trans (same_new (o := .lst (cutV (bs.map sgn) none (some (a : Int)) ++ [sgn c])) he3)
          refine ⟨.ref D, rfl, .int a, rfl, _, _, rfl, rfl, _, rfl, D, _, rfl, SqL.of (s3 _ _ hD), fun e4 he4 => ?_⟩
          refine ⟨e3, e4, _, _, rfl, rfl, by rw [upd_ne (ne_new he4).symm, upd_same], upd_same, ?_, fun e5 he5 => ?_⟩
          · rw [cut_to, show ((a : Int) + 1) = ((a + 1 : Nat) : Int) by omega, cut_from, List.length_append, List.length_take, List.length_drop, List.length_map]
            show min a bs.length + 1 + _ ≤ _
            exact Nat.le_trans (show _ ≤ 100 by omega) (by decide)
          have s5 := (s3.trans (same_new (o := .lst (cutV (bs.map sgn) (some ((a : Int) + 1)) none)) he4)).trans (same_new (o := .lst (cutV (bs.map sgn) none (some (a : Int)) ++ [sgn c] ++ cutV (bs.map sgn) (some ((a : Int) + 1)) none)) he5)
          have en : cutV (bs.map sgn) none (some (a : Int)) ++ [sgn c] ++ cutV (bs.map sgn) (some ((a : Int) + 1)) none = ((nm bs a c).map fun c => mk [c]).map V.str := by
            rw [cut_to, show ((a : Int) + 1) = ((a + 1 : Nat) : Int) by omega, cut_from, List.map_map]
            unfold nm
            rw [List.map_append, List.map_cons, List.map_take, List.map_drop, List.append_assoc]
            rfl
          refine ⟨_, e5, (nm bs a c).map fun c => mk [c], rfl, rfl, .inl (SqL.of (by rw [upd_same, en])), ?_, ?_⟩
          · have l1 : ((nm bs a c).map fun c => mk [c]).map (·.length) = (nm bs a c).map fun _ => 1 := by
              rw [List.map_map]
              rfl
            rw [l1, List.map_const', List.sum_replicate_nat, List.length_map, nm_len ha]
            show bs.length * 1 + bs.length * 0 ≤ 16777216
            omega
          refine ⟨F, _, _, rfl, rfl, s5 _ _ hF, by rw [List.length_map]; exact small1000 (by omega), ?_⟩
          refine ⟨D, bs, _, _, ns ++ [mk (nm bs a c)], rfl, by omega, ?_, ?_, nDp, nD5, nDF, ha, hb4, hba, ?_, by rw [List.length_append, hnl]; rfl, ?_, ?_⟩
          · exact Dr.mono (Dr.mut ⟨d.1.trans (Same.kp s5), d.2.same s5⟩ hF5 nFp) (by omega)
          · rw [upd_ne nDF]
            exact s5 _ _ hD
          · rw [upd_same, List.map_append, join_ones]
            rfl
          · intro j z hz
            by_cases hj : j < ns.length
            · rw [List.getElem?_append_left hj] at hz
              exact hnat j z hz
            · rw [List.getElem?_append_right (by omega)] at hz
              have hj0 : j - ns.length = 0 := by
                have := (List.getElem?_eq_some_iff.mp hz).1
                simp only [List.length_singleton] at this
                omega
              rw [hj0] at hz
              have ez : mk (nm bs a c) = z := Option.some.inj hz
              rw [← ez, mk_tl, nm_at ha, show j = i by omega, hci]
          · intro z hz
            rcases List.mem_append.mp hz with z1 | z1
            · exact hnis z z1
            · rw [List.mem_singleton.mp z1]
              exact nm_is hba (hcs _ (List.mem_of_getElem? hci)) ha hb4
      · rintro σ H' ⟨D, bs, v9, v10, ns, rfl, hi, d, hD, nDp, nD5, nDF, ha, hb4, hba, hF, hnl, hnat, hnis⟩
        refine ⟨.ref F, rfl, F, _, rfl, .inl ⟨SqL.of hF, fun tq2 htq2 => ?_⟩⟩
        rw [List.length_map] at hnl d
        have hms := nms_of nd hnl hnat hnis
        rw [hl] at hms
        exact q tq2 ns _ hms ((d05.trans (d.mono (by omega))).new htq2) (d05.fr (d.fr htq2)) ((d05.trans d).2.ne htq2) upd_same
end
end OG
set_option Elab.async false
set_option linter.all false
set_option maxRecDepth 100000
set_option maxHeartbeats 4000000
namespace OG
open PySem PySem.Spec PyProof.Rows L2
theorem lc_drawn {p : Addr} {m : Nat} {H5 : Hp} {D : Addr} {te : TE} {sl : Nat} {σ : L2.St} {Qd : Hp → Prop} (b : Nat → Nat) (R : V → Prop) (hP : Pot (b 0) H5 p) (hD : H5 D = none) (hm : m ≤ 1000)
    (hte : ∀ (i : Nat) (H' : Hp) (Q : VK), i < m → Dr p (b i) H5 H' → (∀ x H4, R x → Dr p (b (i + 1)) H' H4 → Q x H4) → te ((wipe σ [sl]).set sl (some (.int (0 + (i : Int))))) H' Q)
    (hw : ∀ v : Option V, wipe ((wipe σ [sl]).set sl v) [sl] = wipe σ [sl])
    (hd : ∀ (H6 : Hp) (xs : List V), xs.length = m → (∀ x ∈ xs, R x) → Dr p (b m) H5 H6 → H6 D = some (.lst xs) → Qd H6) :
    ∃ W : Nat → Nat → Hp → Prop, (∃ m, W 0 m (upd H5 D (.lst []))) ∧ ∀ i n H, W i n H →
      ((Itr 0 m).stop i H ∧ Qd H) ∨ ((Itr 0 m).go i H ∧ ∃ Nx : Hp → Prop, (∀ H', Nx H' → ∃ m', m' < n ∧ W (i + 1) m' H') ∧ ∀ x H', (Itr 0 m).yld i H x H' → gName sl x (wipe σ [sl]) H' fun σ2 H2 => wipe σ2 [sl] = wipe σ [sl] ∧ tYes σ2 H2 fun b H3 =>
        if b = true then te σ2 H3 fun y H4 => ∃ acc, H4 D = some (.lst acc) ∧ acc.length < sizeLine ∧ Nx (upd H4 D (.lst (acc ++ [y]))) else Nx H3) := by
  have nDp : D ≠ p := hP.ne hD
  refine lc_range (lo := 0) (n := m) (fun i H' => i ≤ m ∧ Dr p (b i) H5 H' ∧ ∃ xs : List V, H' D = some (.lst xs) ∧ xs.length = i ∧ ∀ x ∈ xs, R x) ⟨Nat.zero_le _, (Dr.start hP (Nat.le_refl _)).new hD, [], upd_same, rfl, fun _ h => by cases h⟩ ?_ ?_
  · rintro i H' hi ⟨_, d, xs, h1, h2, h3⟩
    refine ⟨hw _, ?_⟩
    refine hte i H' _ hi d fun x H4 hx d4 => ?_
    refine ⟨xs, d4.st nDp h1, small1000 (by omega), hi, (d.trans d4).mut hD nDp, xs ++ [x], upd_same, by rw [List.length_append, h2]; rfl, fun z hz => ?_⟩
    rcases List.mem_append.mp hz with q | q
    · exact h3 z q
    · rw [List.mem_singleton.mp q]
      exact hx
  · rintro H6 ⟨_, d, xs, h1, h2, h3⟩
    exact hd H6 xs h2 h3 d h1
theorem ints_of {P : Int → Prop} : ∀ {xs : List V}, (∀ x ∈ xs, ∃ z, x = V.int z ∧ P z) → ∃ zs : List Int, xs = zs.map V.int ∧ ∀ z ∈ zs, P z
  | [], _ => ⟨[], rfl, fun _ h => by cases h⟩
  | x :: r, h => by
    obtain ⟨zs, e, k⟩ := ints_of (xs := r) fun y hy => h y (List.mem_cons_of_mem _ hy)
    obtain ⟨z, ez, pz⟩ := h x List.mem_cons_self
    refine ⟨z :: zs, by rw [e, ez]; rfl, fun y hy => ?_⟩
    rcases List.mem_cons.mp hy with q | q
    · rw [q]; exact pz
    · exact k y q
def WOk (b w : Int) : Prop := w ≠ 0 ∧ -1000000000000 ≤ w ∧ w ≤ 1000000000000 ∧ (0 < b → 0 < w ∧ w < b)
theorem sum_bd : ∀ {zs : List Int}, (∀ z ∈ zs, -3 ≤ z ∧ z ≤ 3) → -(3 * (zs.length : Int)) ≤ zs.sum ∧ zs.sum ≤ 3 * (zs.length : Int)
  | [], _ => by simp
  | x :: r, h => by
    have ih := sum_bd (zs := r) fun y hy => h y (List.mem_cons_of_mem _ hy)
    have hx := h x List.mem_cons_self
    rw [List.sum_cons, List.length_cons]
    omega
end OG
set_option Elab.async false
set_option linter.all false
set_option maxRecDepth 100000
set_option maxHeartbeats 4000000
namespace OG
open PySem PySem.Spec PyProof.Rows L2
theorem seq_fin {t1 t2 : TS} {D : Ends} {σ : L2.St} {H : Hp} (C : L2.St → Hp → Prop) (h2 : ∀ σ' H', C σ' H' → t2 D σ' H') (h1 : (∀ σ' H', C σ' H' → t2 D σ' H') → t1 { D with nx := t2 D } σ H) : tSeq t1 t2 D σ H := h1 h2
/-- places: the ints below m -/
def plV (m : Nat) : List V := rgV 0 (m : Int)
theorem plV_len (m : Nat) : (plV m).length = m := by
  unfold plV
  rw [rgV_length]
  omega
theorem plV_at {m i : Nat} {x : V} (h : (plV m)[i]? = some x) : i < m ∧ x = .int (i : Int) := by
  have hi : i < m := by
    have q := (List.getElem?_eq_some_iff.mp h).1
    rwa [plV_len] at q
  refine ⟨hi, ?_⟩
  unfold plV rgV at h
  rw [List.getElem?_map, List.getElem?_range (show i < ((m : Int) - 0).toNat by omega)] at h
  have e : V.int (0 + (i : Int)) = x := Option.some.inj h
  rw [← e, Int.zero_add]
/-- a list of lists: m rows of m numbers -/
def Mat (R : Int → Prop) (p : Addr) (H : Hp) (S : Addr) (m : Nat) : Prop := ∃ rs : List Addr, H S = some (.lst (rs.map V.ref)) ∧ S ≠ p ∧ rs.length = m ∧ ∀ r ∈ rs, r ≠ p ∧ r ≠ S ∧ ∃ row : List Int, H r = some (.lst (row.map V.int)) ∧ row.length = m ∧ ∀ z ∈ row, R z
theorem Mat.imp {R R' : Int → Prop} {p : Addr} {H : Hp} {S : Addr} {m : Nat} (h : Mat R p H S m) (e : ∀ z, R z → R' z) : Mat R' p H S m := by
  obtain ⟨rs, h1, h2, h3, h4⟩ := h
  refine ⟨rs, h1, h2, h3, fun r hr => ?_⟩
  obtain ⟨a, b, row, c, d, f⟩ := h4 r hr
  exact ⟨a, b, row, c, d, fun z hz => e z (f z hz)⟩
theorem Mat.dr {R : Int → Prop} {p : Addr} {H H' : Hp} {S : Addr} {m k : Nat} (h : Mat R p H S m) (d : Dr p k H H') : Mat R p H' S m := by
  obtain ⟨rs, h1, h2, h3, h4⟩ := h
  refine ⟨rs, d.st h2 h1, h2, h3, fun r hr => ?_⟩
  obtain ⟨a, b, row, c, d', f⟩ := h4 r hr
  exact ⟨a, b, row, d.st a c, d', f⟩
/-- the entry at a, b -/
theorem Mat.row {R : Int → Prop} {p : Addr} {H : Hp} {S : Addr} {m i : Nat} (h : Mat R p H S m) (hi : i < m) : ∃ (rs : List Addr) (r : Addr) (row : List Int), H S = some (.lst (rs.map V.ref)) ∧ rs.length = m ∧ (rs.map V.ref)[i]? = some (.ref r) ∧ H r = some (.lst (row.map V.int)) ∧ row.length = m ∧ ∀ z ∈ row, R z := by
  obtain ⟨rs, h1, h2, h3, h4⟩ := h
  have hr : rs[i]? = some (rs[i]'(by omega)) := List.getElem?_eq_getElem (by omega)
  obtain ⟨a, b, row, c, d', f⟩ := h4 _ (List.mem_of_getElem? hr)
  refine ⟨rs, _, row, h1, h3, ?_, c, d', f⟩
  rw [List.getElem?_map, hr]
  rfl
theorem row_at {R : Int → Prop} {row : List Int} {m i : Nat} (h : row.length = m) (f : ∀ z ∈ row, R z) (hi : i < m) : ∃ z, (row.map V.int)[i]? = some (.int z) ∧ R z := by
  have hr : row[i]? = some (row[i]'(by omega)) := List.getElem?_eq_getElem (by omega)
  refine ⟨_, ?_, f _ (List.mem_of_getElem? hr)⟩
  rw [List.getElem?_map, hr]
  rfl
theorem lc_mat {K : PySem.W.Frag} {p pl D : Addr} {m k sa sb sp : Nat} {H5 : Hp} {te : TE} {σ : L2.St} {Qd : Hp → Prop} (R : Int → Prop)
    (hP : Pot (k + 25) H5 p) (hm : m ≤ 4) (hpl : H5 pl = some (.lst (plV m))) (npl : pl ≠ p) (hD : H5 D = none)
    (hte : ∀ (a b j : Nat) (H' : Hp) (Q' : VK), a < m → b < m → Dr p (j + 1) H5 H' → (∀ z H4, R z → Dr p j H' H4 → Q' (.int z) H4) →
      te ((wipe ((wipe σ [sa]).set sa (some (.int (a : Int)))) [sb]).set sb (some (.int (b : Int)))) H' Q')
    (hv : ∀ v : Option V, ((wipe σ [sa]).set sa v)[sp]? = some (some (.ref pl)))
    (hw1 : ∀ v : Option V, wipe ((wipe σ [sa]).set sa v) [sa] = wipe σ [sa])
    (hw2 : ∀ v v2 : Option V, wipe ((wipe ((wipe σ [sa]).set sa v) [sb]).set sb v2) [sb] = wipe ((wipe σ [sa]).set sa v) [sb])
    (hd : ∀ (H6 : Hp), Mat R p H6 D m → Dr p k H5 H6 → Qd H6) :
    ∃ W : Nat → Nat → Hp → Prop, (∃ m, W 0 m (upd H5 D (.lst []))) ∧ ∀ i n H, W i n H →
      ((Itl K pl).stop i H ∧ Qd H) ∨ ((Itl K pl).go i H ∧ ∃ Nx : Hp → Prop, (∀ H', Nx H' → ∃ m', m' < n ∧ W (i + 1) m' H') ∧ ∀ x H', (Itl K pl).yld i H x H' → gName sa x (wipe σ [sa]) H' fun σ2 H2 => wipe σ2 [sa] = wipe σ [sa] ∧ tYes σ2 H2 fun b H3 =>
        if b = true then tLc (iList K (tVar sp)) (gName sb) tYes te [sb] σ2 H3 fun y H4 => ∃ acc, H4 D = some (.lst acc) ∧ acc.length < sizeLine ∧ Nx (upd H4 D (.lst (acc ++ [y]))) else Nx H3) := by
  have nDp : D ≠ p := hP.ne hD
  refine lc_list (K := K) (a := pl) (xs := plV m) (fun i H' => i ≤ m ∧ Dr p (k + 25 - 5 * i) H5 H' ∧ ∃ rs : List Addr, H' D = some (.lst (rs.map V.ref)) ∧ rs.length = i ∧ ∀ r ∈ rs, r ≠ p ∧ r ≠ D ∧ ∃ row : List Int, H' r = some (.lst (row.map V.int)) ∧ row.length = m ∧ ∀ z ∈ row, R z)
    ⟨Nat.zero_le _, (Dr.start hP (Nat.le_refl _)).new hD, [], upd_same, rfl, fun _ h => by cases h⟩ (fun i H' _ ⟨_, d, _⟩ => SqL.of (d.st npl hpl)) ?_ ?_
  · rintro i x H' hx ⟨_, d, rs, h1, h2, h3⟩
    obtain ⟨him, rfl⟩ := plV_at hx
    refine ⟨hw1 _, ?_⟩
    refine ⟨.ref pl, hv _, pl, rfl, ⟨_, SqL.of (d.st npl hpl)⟩, fun D2 hD2 => ?_⟩
    have nD2p : D2 ≠ p := d.2.ne hD2
    have nD2D : D2 ≠ D := fun z => by
      rw [z, h1] at hD2
      cases hD2
    have hD25 := d.fr hD2
    refine lc_list (K := K) (a := pl) (xs := plV m) (fun j H7 => j ≤ m ∧ Dr p (k + 25 - 5 * i - j) H' H7 ∧ ∃ row : List Int, H7 D2 = some (.lst (row.map V.int)) ∧ row.length = j ∧ ∀ z ∈ row, R z)
      ⟨Nat.zero_le _, (Dr.start d.2 (Nat.le_refl _)).new hD2, [], upd_same, rfl, fun _ h => by cases h⟩ (fun j H7 _ ⟨_, d7, _⟩ => SqL.of (d7.st npl (d.st npl hpl))) ?_ ?_
    · rintro j x H7 hx ⟨_, d7, row, g1, g2, g3⟩
      obtain ⟨hjm, rfl⟩ := plV_at hx
      refine ⟨hw2 _ _, ?_⟩
      refine hte i j (k + 25 - 5 * i - (j + 1)) H7 _ him hjm ((d.trans d7).mono (by omega)) fun z H8 hz d8 => ?_
      refine ⟨row.map V.int, d8.st nD2p g1, by rw [List.length_map]; exact small1000 (by omega), hjm, (d7.trans d8).mut hD2 nD2p, row ++ [z], ?_, by rw [List.length_append, g2]; rfl, fun y hy => ?_⟩
      · rw [upd_same, List.map_append]
        rfl
      · rcases List.mem_append.mp hy with q | q
        · exact g3 y q
        · rw [List.mem_singleton.mp q]
          exact hz
    · rintro H7 ⟨_, d7, row, g1, g2, g3⟩
      rw [plV_len] at d7 g2
      refine ⟨rs.map V.ref, d7.st nDp h1, by rw [List.length_map]; exact small1000 (by omega), him, ((d.trans d7).mut hD nDp).mono (by omega), rs ++ [D2], ?_, by rw [List.length_append, h2]; rfl, fun r hr => ?_⟩
      · rw [upd_same, List.map_append]
        rfl
      · rcases List.mem_append.mp hr with q | q
        · obtain ⟨a1, a2, row', a3, a4, a5⟩ := h3 r q
          exact ⟨a1, a2, row', by rw [upd_ne a2]; exact d7.st a1 a3, a4, a5⟩
        · rw [List.mem_singleton.mp q]
          exact ⟨nD2p, nD2D, row, by rw [upd_ne nD2D]; exact g1, g2, g3⟩
  · rintro H6 ⟨_, d, rs, h1, h2, h3⟩
    rw [plV_len] at d h2
    exact hd H6 ⟨rs, h1, nDp, h2, h3⟩ (d.mono (by omega))
end OG
set_option Elab.async false
set_option linter.all false
set_option maxRecDepth 100000
set_option maxHeartbeats 4000000
namespace OG
open PySem PySem.Spec PyProof.Rows L2
section
variable {X : Cx} (K : PySem.W.Frag)
theorem pi_listK {tg l : Expr} {tl : TE} (h : PE X l tl) (hK : X.K = K := by rfl) : PI X tg l (iList K tl) := hK ▸ pi_list h
theorem pi_tupK {tg l : Expr} {tl : TE} (h : PE X l tl) (hK : X.K = K := by rfl) : PI X tg l (iTup K tl) := hK ▸ pi_tup h
theorem ix_listK (hK : X.K = K := by rfl) : IxR X (rIxL K) := hK ▸ ix_list
theorem ix_tupK (hK : X.K = K := by rfl) : IxR X (rIxT K) := hK ▸ ix_tup
def rTupOf (K : PySem.W.Frag) : List V → Hp → VK → Prop := fun xs H Q => ∃ p ys, xs = [.ref p] ∧ ((SqL K H p ys ∧ ∀ l, H l = none → Q (.ref l) (upd H l (.tup ys))) ∨ (SqT K H p ys ∧ Q (.ref p) H))
theorem call_tuple_ofK (hK : X.K = K := by rfl) : CallR X (.type "tuple") (rTupOf K) := hK ▸ call_tuple_of
theorem op_in_seqK (hK : X.K = K := by rfl) : OpR X (compareOp .In) (rIn K false) := hK ▸ op_in_seq
theorem op_notIn_seqK (hK : X.K = K := by rfl) : OpR X (compareOp .NotIn) (rIn K true) := hK ▸ op_notIn_seq
def rJoin (K : PySem.W.Frag) : V → List V → Hp → VK → Prop := fun x xs H Q => ∃ a p, ∃ ys : List Str, x = .str a ∧ xs = [.ref p] ∧ (SqL K H p (ys.map V.str) ∨ SqT K H p (ys.map V.str)) ∧ (ys.map (·.length)).sum + ys.length * a.length ≤ 16777216 ∧ Q (.str (Txt.join a ys)) H
theorem mt_joinK (hK : X.K = K := by rfl) : MtR X "str.join" (rJoin K) := hK ▸ mt_join
theorem sl_listK (hK : X.K = K := by rfl) : SlR X (rSlL K) := hK ▸ sl_list
def rLenSeq (K : PySem.W.Frag) : List V → Hp → VK → Prop := fun xs H Q => ∃ p ys, xs = [.ref p] ∧ (SqL K H p ys ∨ SqT K H p ys) ∧ Q (.int ys.length) H
theorem call_len_seqK (hK : X.K = K := by rfl) : CallR X (.builtin "len") (rLenSeq K) := hK ▸ call_len_seq
theorem pg_tupK {es : List Expr} {k : Nat} {t : TGs} {n : Nat} {pos : Pos} (hc : X.calm = true) (h : PGs X es t) (hn : (assignEach es X.env).length = n := by rfl) (hst : (assignEach es X.env).findIdx? (·.1) = none := by rfl) (hK : X.K = K := by rfl) : PG X (.Tuple es k pos) (gTup K n t) := hK ▸ pg_tup hc h hn hst
end
end OG
set_option Elab.async false
set_option linter.all false
set_option maxRecDepth 100000
set_option maxHeartbeats 8000000
namespace OG
open PySem PySem.Spec PyProof.Rows L2
theorem merge_new : ∀ {more kvs : List (Key × V)}, (more.map (·.1)).Nodup → (∀ kv ∈ more, valV kvs kv.1 = none) → mergeK kvs more = kvs ++ more
  | [], kvs, _, _ => by
    rw [List.append_nil]
    rfl
  | kv :: r, kvs, h, hn => by
    rw [List.map_cons, List.nodup_cons] at h
    have e : mergeK kvs (kv :: r) = mergeK (putK kvs kv.1 kv.2) r := rfl
    have e1 := putK_new kv.2 (hn kv List.mem_cons_self)
    rw [e, e1, merge_new h.2 fun x hx => ?_, List.append_assoc]
    · rfl
    · rw [valV_snoc _ _ _ _ (hn kv List.mem_cons_self), if_neg fun z => h.1 (by rw [← z]; exact List.mem_map_of_mem hx)]
      exact hn x (List.mem_cons_of_mem _ hx)
theorem merge0 {more : List (Key × V)} (h : (more.map (·.1)).Nodup) : mergeK [] more = more := by
  rw [merge_new h fun _ _ => rfl]
  rfl
theorem dget {H : Hp} {o : Addr} {kvs : List (Key × V)} {s : Str} {v : V} (h : H o = some (.dK kvs)) (hv : valV kvs (.inr s) = some v) : DGet H o (.str s) (some v) := .inl ⟨kvs, .inr s, .inl h, rfl, hv.symm⟩
theorem putK_nd {kvs : List (Key × V)} {k : Key} {v : V} (h : (kvs.map (·.1)).Nodup) : ((putK kvs k v).map (·.1)).Nodup := by
  unfold putK
  split
  · rw [List.map_map, show ((fun x : Key × V => x.1) ∘ fun kv => if kv.1 = k then (kv.1, v) else kv) = (fun x => x.1) from funext fun kv => by
      show (if kv.1 = k then (kv.1, v) else kv).1 = kv.1
      split <;> rfl]
    exact h
  · rename_i e
    rw [List.map_append, List.nodup_append]
    refine ⟨h, by simp, fun a ha b hb z => ?_⟩
    obtain ⟨kv, h1, rfl⟩ := List.mem_map.mp ha
    have eb : b = k := by simpa using hb
    exact e (List.any_eq_true.mpr ⟨kv, h1, decide_eq_true (z.trans eb)⟩)
theorem k_ne {a b : Str} (h : ¬ a = b) : ¬ (Sum.inr a : Key) = Sum.inr b := fun z => h (Sum.inr.inj z)
def istr (i : Int) : Str := Str.ofString (toString i)
theorem istr_len {i : Int} (h1 : -1000000000000 ≤ i) (h2 : i ≤ 1000000000000) : (istr i).length ≤ 14 := by
  by_cases h : i < 0
  · unfold istr
    rw [len_text_neg h]
    have := toString_length_le (v := 0 - i) (by omega) (k := 13) (by decide) (by omega)
    omega
  · have := toString_length_le (v := i) (by omega) (k := 13) (by decide) (by omega)
    unfold istr
    omega
theorem small_log {i : Int} (h1 : -1000000000000 ≤ i) (h2 : i ≤ 1000000000000) : i.natAbs.log2 < 1920 := PySem.Flt.log2_lt_of (by decide) (Nat.lt_of_le_of_lt (show i.natAbs ≤ 1000000000000 by omega) (Nat.lt_of_lt_of_le (show 1000000000000 < 2 ^ 60 by decide) (Nat.pow_le_pow_right (by decide) (by decide))))
theorem app_len (a b : Str) : (a ++ b).length = a.length + b.length := by
  rw [TL.len_tl, TL.tl_append, List.length_append, TL.len_tl, TL.len_tl]
theorem joinL_len (S : List Nat) : ∀ ls : List (List Nat), (TL.joinL S ls).length ≤ (ls.map fun l => l.length + S.length).sum
  | [] => Nat.zero_le _
  | [p] => by
    show p.length ≤ _
    simp
  | p :: q :: r => by
    show (p ++ (S ++ TL.joinL S (q :: r))).length ≤ _
    have ih := joinL_len S (q :: r)
    rw [List.length_append, List.length_append, List.map_cons, List.sum_cons]
    omega
theorem join_len (a : Str) (ys : List Str) : (Txt.join a ys).length ≤ (ys.map fun y => y.length + a.length).sum := by
  have e := (congrArg TL.tl (TL.join_eq a ys)).trans (TL.tl_join a ys)
  rw [TL.len_tl, e]
  refine Nat.le_trans (joinL_len _ _) ?_
  rw [List.map_map]
  exact Nat.le_refl _
theorem sum_le {α : Type} {f : α → Nat} {c : Nat} : ∀ {ys : List α}, (∀ y ∈ ys, f y ≤ c) → (ys.map f).sum ≤ ys.length * c
  | [], _ => Nat.zero_le _
  | y :: r, h => by
    have ih := sum_le (ys := r) fun z hz => h z (List.mem_cons_of_mem _ hz)
    have hy := h y List.mem_cons_self
    rw [List.map_cons, List.sum_cons, List.length_cons, Nat.add_mul]
    omega
theorem join_le {a : Str} {ys : List Str} {c n : Nat} (h : ∀ y ∈ ys, y.length ≤ c) (hn : ys.length ≤ n) (ha : a.length = 1) : (Txt.join a ys).length ≤ n * (c + 1) := by
  refine Nat.le_trans (join_len a ys) (Nat.le_trans (sum_le (c := c + 1) fun y hy => ?_) (Nat.mul_le_mul_right _ hn))
  have := h y hy
  omega
theorem join_ok {a : Str} {ys : List Str} {c n : Nat} (h : ∀ y ∈ ys, y.length ≤ c) (hn : ys.length ≤ n) (ha : a.length = 1) (hb : n * (c + 1) ≤ 16777216) : (ys.map (·.length)).sum + ys.length * a.length ≤ 16777216 := by
  have e := sum_le (f := fun y : Str => y.length) h
  have e2 : ys.length * (c + 1) ≤ n * (c + 1) := Nat.mul_le_mul_right _ hn
  rw [Nat.mul_add, Nat.mul_one] at e2
  rw [ha]
  omega
theorem take_more {α : Type} {l : List α} {i : Nat} {x : α} (h : l[i]? = some x) : l.take (i + 1) = l.take i ++ [x] := by
  rw [List.take_add_one, h]
  rfl
theorem zw_at {α β γ : Type} {f : α → β → γ} {xs : List α} {ys : List β} {i : Nat} {x : α} {y : β} (h1 : xs[i]? = some x) (h2 : ys[i]? = some y) : (List.zipWith f xs ys)[i]? = some (f x y) := by
  rw [List.getElem?_zipWith, h1, h2]
theorem szl {n : Nat} (h : n ≤ 16000000) : n ≤ sizeLine := Nat.le_trans h (by decide)
end OG
set_option Elab.async false
set_option linter.all false
set_option maxRecDepth 100000
set_option maxHeartbeats 4000000
namespace OG
open PySem PySem.Spec PyProof.Rows L2
open PySem.NumText (AllDigits digitsVal)
abbrev tl (x : Str) : List Nat := x.cps.toList
def figs : List Nat → List Nat
  | 45 :: r => r
  | l => l
theorem figs_neg (r : List Nat) : figs (45 :: r) = r := rfl
theorem figs_pos {c : Nat} {r : List Nat} (h : c ≠ 45) : figs (c :: r) = c :: r := by
  unfold figs
  split
  · rename_i h2
    exact absurd (List.cons.inj h2).1 h
  · rfl
theorem figs_le (l : List Nat) : (figs l).length ≤ l.length := by
  unfold figs
  split
  · simp
  · exact Nat.le_refl _
theorem rp (w : Str) : tl (Txt.removeprefix w "-") = figs (tl w) := by
  have e : Builtin.Str.subAt w "-" 0 = ((tl w).take 1 == [45]) := by
    rw [PySem.StrLaws.subAt_eq, List.drop_zero]
    rfl
  unfold Txt.removeprefix
  rw [e]
  cases h : tl w with
  | nil =>
    show tl (Txt.affix w (if (([] : List Nat) == [45]) = true then _ else none)) = []
    rw [if_neg (by decide)]
    exact h
  | cons c r =>
    by_cases hc : c = 45
    · subst hc
      rw [if_pos (by show ([45] == [45]) = true; decide)]
      have hl : w.length = r.length + 1 := by
        rw [TL.len_tl]
        show (tl w).length = _
        rw [h]
        rfl
      show tl (if ((w.length - 1 == w.length) = true) then w else Builtin.Str.strSub w 1 w.length) = r
      rw [if_neg (by rw [hl]; simp)]
      show (Builtin.Str.strSub w 1 w.length).cps.toList = r
      rw [PySem.StrLaws.strSub_toList]
      show ((tl w).drop 1).take (w.length - 1) = r
      rw [h, hl]
      show r.take (r.length + 1 - 1) = r
      exact List.take_of_length_le (by omega)
    · rw [if_neg (by show ¬ ([c] == [45]) = true; simpa using hc), figs_pos hc]
      exact h
def digs (l : List Nat) : Bool := l.all fun c => decide (48 ≤ c) && decide (c ≤ 57)
theorem digs_all {l : List Nat} (h : digs l = true) : AllDigits l := fun c hc => by
  unfold digs at h
  rw [List.all_eq_true] at h
  have := h c hc
  rw [Bool.and_eq_true, decide_eq_true_eq, decide_eq_true_eq] at this
  exact this
/-- a number of at most n figures, as Python writes it -/
def numQ (n : Nat) (l : List Nat) : Bool := decide (1 ≤ (figs l).length) && decide ((figs l).length ≤ n) && digs (figs l) && !(decide ((figs l).head? = some 48) && !decide (l = [48]))
def numV : List Nat → Int
  | 45 :: r => -((digitsVal r : Nat) : Int)
  | l => ((digitsVal l : Nat) : Int)
theorem numV_neg (r : List Nat) : numV (45 :: r) = -((digitsVal r : Nat) : Int) := rfl
theorem numV_pos {c : Nat} {r : List Nat} (h : c ≠ 45) : numV (c :: r) = ((digitsVal (c :: r) : Nat) : Int) := by
  unfold numV
  split
  · rename_i h2
    exact absurd (List.cons.inj h2).1 h
  · rfl
theorem numV_abs {l : List Nat} (h : l ≠ []) : (numV l).natAbs = digitsVal (figs l) := by
  cases l with
  | nil => exact absurd rfl h
  | cons c r =>
    by_cases hc : c = 45
    · subst hc
      rw [numV_neg, figs_neg]
      omega
    · rw [numV_pos hc, figs_pos hc]
      omega
theorem digitsVal_go : ∀ (l : List Nat) (a : Nat), l.foldl (fun acc c => acc * 10 + (c - 48)) a = a * 10 ^ l.length + digitsVal l
  | [], a => by
    show a = a * 10 ^ 0 + 0
    omega
  | c :: r, a => by
    rw [List.foldl_cons, digitsVal_go r]
    have e : digitsVal (c :: r) = (c - 48) * 10 ^ r.length + digitsVal r := by
      unfold digitsVal
      rw [List.foldl_cons]
      have := digitsVal_go r (0 * 10 + (c - 48))
      rw [this, show 0 * 10 + (c - 48) = c - 48 by omega]
      rfl
    rw [e, List.length_cons, Nat.pow_succ, Nat.add_mul]
    rw [Nat.mul_assoc, Nat.mul_comm 10 (10 ^ r.length)]
    omega
theorem digitsVal_cons (c : Nat) (r : List Nat) : digitsVal (c :: r) = (c - 48) * 10 ^ r.length + digitsVal r := by
  have := digitsVal_go r (0 * 10 + (c - 48))
  show (c :: r).foldl _ 0 = _
  rw [List.foldl_cons, this, show 0 * 10 + (c - 48) = c - 48 by omega]
theorem digitsVal_lt : ∀ {l : List Nat}, AllDigits l → digitsVal l < 10 ^ l.length
  | [], _ => by decide
  | c :: r, h => by
    have ih := digitsVal_lt h.tail
    have hc := h.head
    rw [digitsVal_cons, List.length_cons, Nat.pow_succ]
    have : (c - 48) * 10 ^ r.length ≤ 9 * 10 ^ r.length := Nat.mul_le_mul_right _ (by omega)
    omega
theorem digitsVal_ge {c : Nat} {r : List Nat} (h : AllDigits (c :: r)) (hc : c ≠ 48) : 10 ^ r.length ≤ digitsVal (c :: r) := by
  have := h.head
  rw [digitsVal_cons]
  have : 1 * 10 ^ r.length ≤ (c - 48) * 10 ^ r.length := Nat.mul_le_mul_right _ (by omega)
  omega
structure NumQ (n : Nat) (l : List Nat) : Prop where
  f1 : 1 ≤ (figs l).length
  fn : (figs l).length ≤ n
  all : AllDigits (figs l)
  lead : (figs l).head? = some 48 → l = [48]
theorem numQ_iff {n : Nat} {l : List Nat} : numQ n l = true ↔ NumQ n l := by
  unfold numQ
  rw [Bool.and_eq_true, Bool.and_eq_true, Bool.and_eq_true, decide_eq_true_eq, decide_eq_true_eq]
  constructor
  · rintro ⟨⟨⟨h1, h2⟩, h3⟩, h4⟩
    refine ⟨h1, h2, digs_all h3, fun e => ?_⟩
    rw [e] at h4
    simpa using h4
  · rintro ⟨h1, h2, h3, h4⟩
    refine ⟨⟨⟨h1, h2⟩, ?_⟩, ?_⟩
    · unfold digs
      rw [List.all_eq_true]
      intro c hc
      have := h3 c hc
      simpa using this
    · by_cases e : (figs l).head? = some 48
      · rw [h4 e]
        rfl
      · simp [e]
theorem NumQ.ne {n : Nat} {l : List Nat} (h : NumQ n l) : l ≠ [] := fun e => by
  have := h.f1
  rw [e] at this
  exact absurd this (by decide)
theorem NumQ.lt {n : Nat} {l : List Nat} (h : NumQ n l) : (numV l).natAbs < 10 ^ (figs l).length := by
  rw [numV_abs h.ne]
  exact digitsVal_lt h.all
theorem NumQ.ge {n : Nat} {l : List Nat} (h : NumQ n l) (h2 : 2 ≤ (figs l).length) : 10 ^ ((figs l).length - 1) ≤ (numV l).natAbs := by
  rw [numV_abs h.ne]
  have hl := h.lead
  have ha := h.all
  cases e : figs l with
  | nil =>
    rw [e] at h2
    exact absurd h2 (by decide)
  | cons c r =>
    rw [e] at hl ha h2
    have hc : c ≠ 48 := fun z => by
      have := hl (by rw [z]; rfl)
      rw [this] at e
      have e2 : figs [48] = [48] := rfl
      rw [e2] at e
      have := (List.cons.inj e).2
      rw [← this, List.length_singleton] at h2
      omega
    rw [List.length_cons, Nat.add_sub_cancel]
    exact digitsVal_ge ha hc
theorem NumQ.zero {n : Nat} {l : List Nat} (h : NumQ n l) (h0 : numV l = 0) : l = [48] := by
  have hl := h.lt
  by_cases h2 : 2 ≤ (figs l).length
  · have := h.ge h2
    rw [h0] at this
    have p : 0 < 10 ^ ((figs l).length - 1) := Nat.pow_pos (by decide)
    rw [Int.natAbs_zero] at this
    omega
  · have h1 := h.f1
    have ab := numV_abs h.ne
    rw [h0] at ab
    have hl := h.lead
    have ha := h.all
    cases e : figs l with
    | nil =>
      rw [e] at h1
      exact absurd h1 (by decide)
    | cons c r =>
      rw [e] at hl ha h2 ab
      have er : r = [] := by
        cases r with
        | nil => rfl
        | cons x y =>
          rw [List.length_cons, List.length_cons] at h2
          omega
      subst er
      rw [digitsVal_cons] at ab
      have hc := ha.head
      have : digitsVal [] = 0 := rfl
      rw [this] at ab
      have ec : c = 48 := by
        simp at ab
        omega
      exact hl (by rw [ec]; rfl)
theorem NumQ.mono {n k : Nat} {l : List Nat} (h : NumQ n l) (e : (figs l).length ≤ k) : NumQ k l := ⟨h.f1, e, h.all, h.lead⟩
/-- a number of 14 figures that is small has fewer -/
theorem NumQ.small {n k : Nat} {l : List Nat} (h : NumQ n l) (hk : 1 ≤ k) (hv : (numV l).natAbs < 10 ^ k) : NumQ k l := by
  refine h.mono ?_
  by_cases h2 : 2 ≤ (figs l).length
  · have := h.ge h2
    by_cases e : (figs l).length ≤ k
    · exact e
    · have p : 10 ^ k ≤ 10 ^ ((figs l).length - 1) := Nat.pow_le_pow_right (by decide) (by omega)
      omega
  · omega
theorem intText_num {n : Nat} {w : Str} (h : NumQ n (tl w)) (hw : w.length ≤ 4300) : intText? w = some (numV (tl w)) := by
  have ha := h.all
  cases e : tl w with
  | nil => exact absurd e h.ne
  | cons c r =>
    rw [e] at ha
    by_cases hc : c = 45
    · subst hc
      have h1 := h.f1
      rw [e, figs_neg] at h1
      exact intText_neg e ha (fun z => by rw [z] at h1; exact absurd h1 (by decide)) hw
    · rw [figs_pos hc] at ha
      rw [numV_pos hc, ← e]
      exact intText_digits (by show AllDigits (tl w); rw [e]; exact ha) (by show tl w ≠ []; rw [e]; exact fun z => by cases z) hw
theorem figs_ge (l : List Nat) : l.length ≤ (figs l).length + 1 := by
  cases l with
  | nil => exact Nat.zero_le _
  | cons c r =>
    by_cases hc : c = 45
    · subst hc
      rw [figs_neg]
      exact Nat.le_refl _
    · rw [figs_pos hc]
      omega
theorem NumQ.len {n : Nat} {w : Str} (h : NumQ n (tl w)) : w.length ≤ n + 1 := by
  have h1 := figs_ge (tl w)
  have h2 := h.fn
  rw [TL.len_tl]
  show (tl w).length ≤ _
  omega
end OG
set_option Elab.async false
set_option linter.all false
set_option maxRecDepth 100000
set_option maxHeartbeats 4000000
namespace OG
open PySem PySem.Spec PyProof.Rows L2
theorem lc_signs {x : Str} {te : TE} {sl : Nat} {σ : L2.St} {H1 : Hp} {D : Addr} {Qd : Hp → Prop} (f : Nat → Bool) (hx : x.length ≤ 16000000) (hD : H1 D = none)
    (hte : ∀ (c : Nat) (H' : Hp) (Q' : VK), Q' (.bl (f c)) H' → te ((wipe σ [sl]).set sl (some (.str ⟨#[c]⟩))) H' Q')
    (hw : ∀ v : Option V, wipe ((wipe σ [sl]).set sl v) [sl] = wipe σ [sl])
    (hd : ∀ (H6 : Hp), Same H1 H6 → H6 D = some (.lst (((tl x).map f).map V.bl)) → Qd H6) :
    ∃ W : Nat → Nat → Hp → Prop, (∃ m, W 0 m (upd H1 D (.lst []))) ∧ ∀ i n H, W i n H →
      ((Its x).stop i H ∧ Qd H) ∨ ((Its x).go i H ∧ ∃ Nx : Hp → Prop, (∀ H', Nx H' → ∃ m', m' < n ∧ W (i + 1) m' H') ∧ ∀ y H', (Its x).yld i H y H' → gName sl y (wipe σ [sl]) H' fun σ2 H2 => wipe σ2 [sl] = wipe σ [sl] ∧ tYes σ2 H2 fun b H3 =>
        if b = true then te σ2 H3 fun y H4 => ∃ acc, H4 D = some (.lst acc) ∧ acc.length < sizeLine ∧ Nx (upd H4 D (.lst (acc ++ [y]))) else Nx H3) := by
  have hl : (tl x).length = x.cps.size := Array.length_toList ..
  refine ⟨fun i n H => n = x.cps.size - i ∧ i ≤ x.cps.size ∧ Same H1 H ∧ H D = some (.lst ((((tl x).map f).take i).map V.bl)), ⟨_, rfl, Nat.zero_le _, same_new hD, upd_same⟩, ?_⟩
  rintro i n H ⟨rfl, hi, s, h1⟩
  by_cases hlt : i < x.cps.size
  · refine .inr ⟨hlt, fun H' => Same H1 H' ∧ H' D = some (.lst ((((tl x).map f).take (i + 1)).map V.bl)), fun H' p' => ⟨x.cps.size - (i + 1), by omega, rfl, hlt, p'⟩, fun v H' hy => ?_⟩
    obtain ⟨rfl, c, hc, rfl⟩ := hy
    refine ⟨hw _, ?_⟩
    refine hte c H' _ ?_
    have hc' : (tl x)[i]? = some c := by
      rw [← hc]
      exact Array.getElem?_toList
    refine ⟨_, h1, ?_, fun a o ho => ?_, ?_⟩
    · rw [List.length_map, List.length_take, List.length_map, hl]
      have hx' : x.cps.size ≤ 16000000 := hx
      exact Nat.lt_of_le_of_lt (show _ ≤ 16000000 by omega) (by decide)
    · rw [upd_ne (ne_of_none ho hD)]
      exact s _ _ ho
    · rw [upd_same, take_more (l := (tl x).map f) (i := i) (x := f c) (by rw [List.getElem?_map, hc']; rfl), List.map_append]
      rfl
  · have e : i = x.cps.size := by omega
    subst e
    refine .inl ⟨Nat.le_refl _, hd H s ?_⟩
    rw [List.take_of_length_le (by rw [List.length_map, hl]; exact Nat.le_refl _)] at h1
    exact h1
theorem lc_same {K : PySem.W.Frag} {a : Addr} {xs : List V} {te : TE} {sl : Nat} {σ : L2.St} {H1 : Hp} {D : Addr} {Qd : Hp → Prop} (f : V → V) (hx : xs.length ≤ 16000000) (ha : SqL K H1 a xs) (hD : H1 D = none)
    (hte : ∀ (x : V) (H' : Hp) (Q' : VK), x ∈ xs → Same H1 H' → (∀ H'', Same H' H'' → Q' (f x) H'') → te ((wipe σ [sl]).set sl (some x)) H' Q')
    (hw : ∀ v : Option V, wipe ((wipe σ [sl]).set sl v) [sl] = wipe σ [sl])
    (hd : ∀ (H6 : Hp), Same H1 H6 → H6 D = some (.lst (xs.map f)) → Qd H6) :
    ∃ W : Nat → Nat → Hp → Prop, (∃ m, W 0 m (upd H1 D (.lst []))) ∧ ∀ i n H, W i n H →
      ((Itl K a).stop i H ∧ Qd H) ∨ ((Itl K a).go i H ∧ ∃ Nx : Hp → Prop, (∀ H', Nx H' → ∃ m', m' < n ∧ W (i + 1) m' H') ∧ ∀ y H', (Itl K a).yld i H y H' → gName sl y (wipe σ [sl]) H' fun σ2 H2 => wipe σ2 [sl] = wipe σ [sl] ∧ tYes σ2 H2 fun b H3 =>
        if b = true then te σ2 H3 fun y H4 => ∃ acc, H4 D = some (.lst acc) ∧ acc.length < sizeLine ∧ Nx (upd H4 D (.lst (acc ++ [y]))) else Nx H3) := by
  refine lc_list (K := K) (a := a) (xs := xs) (fun i H' => Same H1 H' ∧ H' D = some (.lst ((xs.map f).take i))) ⟨same_new hD, upd_same⟩ (fun i H' _ ⟨s, _⟩ => s.seq ha) ?_ ?_
  · rintro i x H' hx' ⟨s, h1⟩
    have hi := (List.getElem?_eq_some_iff.mp hx').1
    refine ⟨hw _, ?_⟩
    refine hte x H' _ (List.mem_of_getElem? hx') s fun H'' s2 => ?_
    refine ⟨_, s2 _ _ h1, ?_, fun b o ho => ?_, ?_⟩
    · rw [List.length_take, List.length_map]
      exact Nat.lt_of_le_of_lt (show _ ≤ 16000000 by omega) (by decide)
    · rw [upd_ne (ne_of_none ho hD)]
      exact s2 _ _ (s _ _ ho)
    · rw [upd_same, take_more (l := xs.map f) (i := i) (x := f x) (by rw [List.getElem?_map, hx']; rfl)]
  · rintro H' ⟨s, h1⟩
    rw [List.take_of_length_le (by rw [List.length_map]; exact Nat.le_refl _)] at h1
    exact hd H' s h1
theorem all_id {α : Type} (l : List α) (f : α → Bool) : ((l.map f).all id) = l.all f := by
  rw [List.all_map]
  rfl
def isOf (w s : Str) : Bool := decide (0 < w.length) && (tl w).all fun c => decide (c ∈ tl s)
def fig10 : Str := "0123456789"
theorem fig_mem (c : Nat) : decide (c ∈ tl ("0123456789" : Str)) = (decide (48 ≤ c) && decide (c ≤ 57)) := by
  have e : tl ("0123456789" : Str) = [48, 49, 50, 51, 52, 53, 54, 55, 56, 57] := by decide +kernel
  rw [e]
  by_cases h : 48 ≤ c ∧ c ≤ 57
  · rw [decide_eq_true h.1, decide_eq_true h.2]
    refine decide_eq_true ?_
    rcases (show c = 48 ∨ c = 49 ∨ c = 50 ∨ c = 51 ∨ c = 52 ∨ c = 53 ∨ c = 54 ∨ c = 55 ∨ c = 56 ∨ c = 57 by omega) with e | e | e | e | e | e | e | e | e | e <;> rw [e] <;> decide
  · have : ¬ c ∈ [48, 49, 50, 51, 52, 53, 54, 55, 56, 57] := fun m => h (by
      simp only [List.mem_cons, List.mem_nil_iff, or_false] at m
      omega)
    rw [decide_eq_false this]
    by_cases h1 : 48 ≤ c
    · rw [decide_eq_true h1, decide_eq_false (fun h2 => h ⟨h1, h2⟩)]
      rfl
    · rw [decide_eq_false h1]
      rfl
theorem isOf_fig (w : Str) : isOf w "0123456789" = (decide (0 < (tl w).length) && digs (tl w)) := by
  unfold isOf digs
  rw [TL.len_tl]
  congr 1
  congr 1
  funext c
  exact fig_mem c
def isNmB (n : Nat) (z : Str) : Bool := decide (z.length ≤ n) && isOf z "abcdefghijklmnopqrstuvwxyz"
section
variable {P : Program} {w : World} {K : PySem.W.Frag} {mg : Str → Option Value} {base : Heap}
end
end OG
set_option Elab.async false
set_option linter.all false
set_option maxRecDepth 100000
set_option maxHeartbeats 8000000
namespace OG
open PySem PySem.Spec PyProof.Rows L2
theorem le_line {n : Nat} (h : n ≤ 16000000) : n ≤ sizeLine := Nat.le_trans h (by decide)
theorem starts0 (f : Str) : Txt.startswith f "0" = decide ((tl f).head? = some 48) := by
  unfold Txt.startswith
  rw [PySem.StrLaws.subAt_eq, List.drop_zero]
  have e1 : (("0" : Str).length) = 1 := rfl
  have e2 : (("0" : Str)).cps.toList = [48] := rfl
  rw [e1, e2, TL.len_tl]
  show (decide (0 + 1 ≤ (tl f).length) && (((tl f).take 1) == [48])) = _
  cases h : tl f with
  | nil => rfl
  | cons c r =>
    show (decide (0 + 1 ≤ r.length + 1) && ([c] == [48])) = decide (some c = some 48)
    rw [decide_eq_true (show 0 + 1 ≤ r.length + 1 by omega), Bool.true_and]
    by_cases hc : c = 48
    · rw [hc]
      rfl
    · rw [decide_eq_false (fun z => hc (Option.some.inj z))]
      simpa using hc
def oint (c : Bool) (n : Int) : V := if c then .int n else .non
theorem str_eq {a b : Str} : decide (V.str a = V.str b) = decide (tl a = tl b) := by
  by_cases h : a = b
  · rw [h, decide_eq_true rfl, decide_eq_true rfl]
  · rw [decide_eq_false (fun z => h (V.str.inj z)), decide_eq_false (fun z => h (TL.ext_tl z))]
section
variable {P : Program} {w : World} {K : PySem.W.Frag} {mg : Str → Option Value} {base : Heap}
def spIsOf : Sp := fun vs H Q _ => ∃ (w s : Str), vs = [.str w, .str s] ∧ w.length ≤ 10000000 ∧ ∀ H', Same H H' → Q (.bl (isOf w s)) H'
theorem ok_is_of (T : Txt K mg) : FnOk P w K mg base CX0 1 T.f_is_of T.fd_is_of ["word", "signs"] (spIsOf) := by
  refine T.F_is_of.ok sc_is_of (fun vs H Q E h => ?_) (fun cdv A outer s H vs Q E hr h => ?_)
  · obtain ⟨w, s, rfl, _⟩ := h
    rfl
  · obtain ⟨w, sg, rfl, hl, q⟩ := h
    refine ⟨_, (pss_one (ps_ret (pe_and (pe_cmpR op_gt (pe_callB call_len_str (by rfl) T.n_len PySem.boot_len (pa_cons (pv 0) pa_nil)) pe_int (nomark _)) (pe_one (pe_callB (cr_all rfl) (by rfl) T.n_all (by decide +kernel) (pa_cons (pe_lc (own := [("sign", 2)]) (g := gName 2) (by rfl) sc_is_of.nd (pi_str (pv 0)) (blkOk_by (own := [("sign", 2)]) (by rfl)) (fun _ _ _ _ _ => (pg_name (i := 2) sc_is_of.nd rfl (Or.inl rfl))) (fun _ _ _ _ _ => pts_nil) (fun _ _ _ _ _ => (pe_cmpR op_in_sign (pv 2) (pv 1) rfl))) pa_nil)))))), ?_⟩
    refine ⟨.str w, rfl, w, rfl, le_line (by omega), _, _, rfl, rfl, _, rfl, ?_⟩
    refine ite2 (fun h0 => ?_) (fun h0 => ?_)
    · refine ⟨.str w, rfl, w, rfl, fun D hD => ?_⟩
      refine lc_signs (x := w) (fun c => decide (c ∈ tl sg)) (by omega) hD (fun c H' Q' hq => ?_) (fun _ => rfl) (fun H6 s6 h6 => ?_)
      · exact ⟨_, rfl, .str sg, rfl, c, sg, rfl, rfl, hq⟩
      · refine ⟨D, (tl w).map fun c => decide (c ∈ tl sg), rfl, SqL.of h6, ?_⟩
        rw [all_id]
        have e := q H6 s6
        unfold isOf at e
        have h0 : 0 < (w.length : Int) := of_decide_eq_true h0
        rw [decide_eq_true (show 0 < w.length by omega), Bool.true_and] at e
        exact e
    · have e := q H (Same.refl H)
      unfold isOf at e
      have h0 : ¬ 0 < (w.length : Int) := of_decide_eq_false (Bool.eq_false_iff.mpr h0)
      rw [decide_eq_false (show ¬ 0 < w.length by omega), Bool.false_and] at e
      exact e
def spIsLetters : Sp := fun vs H Q _ => ∃ (w : Str) (n : Nat), vs = [.str w, .int (n : Int)] ∧ w.length ≤ 10000000 ∧ ∀ H', Same H H' → Q (.bl (isNmB n w)) H'
theorem ok_is_letters (T : Txt K mg) : FnOk P w K mg base CX0 2 T.f_is_letters T.fd_is_letters ["word", "most"] (spIsLetters) := by
  refine T.F_is_letters.ok sc_is_letters (fun vs H Q E h => ?_) (fun cdv A outer s H vs Q E hr h => ?_)
  · obtain ⟨w, n, rfl, _⟩ := h
    rfl
  · obtain ⟨w, n, rfl, hl, q⟩ := h
    refine ⟨_, (pss_one (ps_ret (pe_and (pe_cmpR op_le (pe_callB call_len_str (by rfl) T.n_len PySem.boot_len (pa_cons (pv 0) pa_nil)) (pv 1) (nomark _)) (pe_one (pe_call (ok_is_of T) (hr.mono (by decide)) (by rfl) T.g_is_of T.F_is_of.kp T.b_is_of .nil pass0 (pa_cons (pv 0) (pa_cons (C8.pe_gc (by rfl) T.m_LETTERS) pa_nil))))))), ?_⟩
    refine ⟨.str w, rfl, w, rfl, le_line (by omega), .int n, rfl, _, _, rfl, rfl, _, rfl, ?_⟩
    refine ite2 (fun h0 => ?_) (fun h0 => ?_)
    · have h0 : (w.length : Int) ≤ n := of_decide_eq_true h0
      refine ⟨.str w, rfl, w, _, rfl, hl, fun H' s' => ?_⟩
      have e := q H' s'
      unfold isNmB at e
      rw [decide_eq_true (show w.length ≤ n by omega), Bool.true_and] at e
      exact e
    · have h0 : ¬ (w.length : Int) ≤ n := of_decide_eq_false (Bool.eq_false_iff.mpr h0)
      have e := q H (Same.refl H)
      unfold isNmB at e
      rw [decide_eq_false (show ¬ w.length ≤ n by omega), Bool.false_and] at e
      exact e
def spIntOf : Sp := fun vs H Q _ => ∃ (w : Str) (n : Nat), vs = [.str w, .int (n : Int)] ∧ w.length ≤ 10000000 ∧ (n ≤ 600 ∨ w.length ≤ 600) ∧ ∀ H', Same H H' → Q (oint (numQ n (tl w)) (numV (tl w))) H'
theorem ok_integer_of (T : Txt K mg) : FnOk P w K mg base CX0 2 T.f_integer_of T.fd_integer_of ["word", "most"] (spIntOf) := by
  refine T.F_integer_of.ok sc_integer_of (fun vs H Q E h => ?_) (fun cdv A outer s H vs Q E hr h => ?_)
  · obtain ⟨w, n, rfl, _⟩ := h
    rfl
  · obtain ⟨w, n, rfl, hl, hn, q⟩ := h
    refine ⟨_, (pss_cons (ps_set (i := 2) sc_integer_of.nd rfl (Or.inl rfl) (pe_bm PySem.F.plainAttrs_str PySem.F.slot_str_removeprefix PySem.F.type_str_removeprefix mt_removeprefix (pv 0) (pa_cons pe_str pa_nil)))
  (pss_cons (ps_if (PW.pt (pw_or (pt_cmpR op_gt (pe_callB call_len_str (by rfl) T.n_len PySem.boot_len (pa_cons (pv 2) pa_nil)) (pv 1) (nomark _)) (pw_or1 (pt_not (pt_val (pe_call (ok_is_of T) (hr.mono (by decide)) (by rfl) T.g_is_of T.F_is_of.kp T.b_is_of .nil pass0 (pa_cons (pv 2) (pa_cons (C8.pe_gc (by rfl) T.m_FIGURES) pa_nil)))))))) (pss_one (ps_ret pe_non)) pss_nil)
  (pss_cons (ps_if (PW.pt (pw_or (pt_cmpR op_eq (pv 0) pe_str (nomark _)) (pw_or1 (PW.pt (pw_and (pt_val (pe_m1 PySem.F.slot_str_startswith PySem.F.type_str_startswith mt_startswith (pv 2) pe_str)) (pw_and1 (pt_cmpR op_gt (pe_callB call_len_str (by rfl) T.n_len PySem.boot_len (pa_cons (pv 2) pa_nil)) pe_int (nomark _)))))))) (pss_one (ps_ret pe_non)) pss_nil)
  (pss_one (ps_ret (pe_callTy call_int_str (by rfl) T.n_int (by decide +kernel) (pa_cons (pv 0) pa_nil))))))), ?_⟩
    refine ⟨.str w, rfl, rfl, w, _, rfl, rfl, le_line (by omega), ?_⟩
    generalize hf : Txt.removeprefix w "-" = f
    have hft : tl f = figs (tl w) := by rw [← hf]; exact rp w
    have hfl : f.length = (figs (tl w)).length := by rw [TL.len_tl]; exact congrArg List.length hft
    have hfw : f.length ≤ 10000000 := by
      have := figs_le (tl w)
      rw [hfl]
      rw [TL.len_tl] at hl
      exact Nat.le_trans this hl
    have no : ∀ H', Same H H' → numQ n (tl w) = false → Q .non H' := fun H' s' e => by
      have e2 := q H' s'
      rw [e] at e2
      exact e2
    refine ⟨.str f, rfl, f, rfl, le_line (by omega), .int n, rfl, _, _, rfl, rfl, _, rfl, ?_⟩
    refine ite2 (fun h0 => ?_) (fun h0 => ?_)
    · have h0 : (n : Int) < f.length := of_decide_eq_true h0
      refine no H (Same.refl H) ?_
      unfold numQ
      rw [decide_eq_false (show ¬ (figs (tl w)).length ≤ n by omega), Bool.and_false, Bool.false_and, Bool.false_and]
    · have h0 : ¬ (n : Int) < f.length := of_decide_eq_false (Bool.eq_false_iff.mpr h0)
      refine ⟨.str f, rfl, f, _, rfl, hfw, fun H1 s1 => ?_⟩
      rw [isOf_fig, hft]
      refine ⟨_, rfl, ?_⟩
      generalize hc1 : (decide (0 < (figs (tl w)).length) && digs (figs (tl w))) = c1
      cases c1 with
      | false =>
        refine no H1 s1 ?_
        unfold numQ
        rw [Bool.and_eq_false_iff, decide_eq_false_iff_not] at hc1
        rcases hc1 with e | e
        · rw [decide_eq_false (show ¬ 1 ≤ (figs (tl w)).length by omega), Bool.false_and, Bool.false_and, Bool.false_and]
        · rw [e, Bool.and_false, Bool.false_and]
      | true =>
        rw [Bool.and_eq_true, decide_eq_true_eq] at hc1
        have base : numQ n (tl w) = !(decide ((figs (tl w)).head? = some 48) && !decide (tl w = [48])) := by
          unfold numQ
          rw [decide_eq_true (show 1 ≤ (figs (tl w)).length by omega), decide_eq_true (show (figs (tl w)).length ≤ n by omega), hc1.2]
          rfl
        refine ⟨.str w, rfl, rfl, _, rfl, ?_⟩
        rw [str_eq]
        have em : tl ("-0" : Str) = [45, 48] := rfl
        rw [em]
        refine ite2 (fun hm => ?_) (fun hm => ?_)
        · have hm : tl w = [45, 48] := of_decide_eq_true hm
          refine no H1 s1 ?_
          rw [base, hm]
          rfl
        · have hm : ¬ tl w = [45, 48] := of_decide_eq_false (Bool.eq_false_iff.mpr hm)
          refine ⟨.str f, rfl, ⟨_, rfl⟩, f, _, rfl, rfl, _, rfl, ?_⟩
          rw [starts0, hft]
          have fin : ∀ H2, Same H H2 → numQ n (tl w) = true → ∃ (a : Str) (n_1 : Int), [V.str w] = [V.str a] ∧ PySem.intText? a = some n_1 ∧ a.length ≤ 640 ∧ Q (.int n_1) H2 := fun H2 s2 e => by
            have nq := numQ_iff.mp e
            have wl := nq.len
            refine ⟨w, _, rfl, intText_num nq (by omega), by omega, ?_⟩
            have e2 := q H2 s2
            rw [e] at e2
            exact e2
          refine ite2 (fun hs => ?_) (fun hs => ?_)
          · have hs : (figs (tl w)).head? = some 48 := of_decide_eq_true hs
            refine ⟨.str f, rfl, f, rfl, le_line (by omega), _, _, rfl, rfl, _, rfl, ?_⟩
            refine ite2 (fun h2 => ?_) (fun h2 => ?_)
            · have h2 : 1 < (f.length : Int) := of_decide_eq_true h2
              refine no H1 s1 ?_
              rw [base, decide_eq_true hs]
              by_cases e : tl w = [48]
              · rw [e] at hfl
                have : (figs [48]).length = 1 := rfl
                omega
              · rw [decide_eq_false e]
                rfl
            · have h2 : ¬ 1 < (f.length : Int) := of_decide_eq_false (Bool.eq_false_iff.mpr h2)
              refine ⟨_, rfl, fin H1 s1 ?_⟩
              rw [base, decide_eq_true hs]
              have e : tl w = [48] := by
                cases hw : tl w with
                | nil =>
                  rw [hw] at hs
                  cases hs
                | cons c r =>
                  rw [hw] at hs hfl hm
                  by_cases hc : c = 45
                  · subst hc
                    rw [figs_neg] at hs hfl
                    cases r with
                    | nil => cases hs
                    | cons d r' =>
                      have ed : d = 48 := Option.some.inj hs
                      rw [List.length_cons] at hfl
                      have er : r' = [] := List.eq_nil_of_length_eq_zero (by omega)
                      rw [ed, er] at hm
                      exact absurd rfl hm
                  · rw [figs_pos hc] at hs hfl
                    have ed : c = 48 := Option.some.inj hs
                    rw [List.length_cons] at hfl
                    have er : r = [] := List.eq_nil_of_length_eq_zero (by omega)
                    rw [ed, er]
              rw [decide_eq_true e]
              rfl
          · have hs : ¬ (figs (tl w)).head? = some 48 := of_decide_eq_false (Bool.eq_false_iff.mpr hs)
            refine ⟨_, rfl, fin H1 s1 ?_⟩
            rw [base, decide_eq_false hs]
            rfl
end
end OG
set_option Elab.async false
set_option linter.all false
set_option maxRecDepth 100000
set_option maxHeartbeats 4000000
namespace OG
open PySem PySem.Spec PyProof.Rows L2
theorem inV_str (z : Str) (ms : List Str) : inV (.str z) (ms.map V.str) = decide (z ∈ ms) := by
  unfold inV
  rw [List.any_map]
  by_cases h : z ∈ ms
  · rw [decide_eq_true h, List.any_eq_true]
    exact ⟨z, h, by show (z == z) = true; exact beq_self_eq_true z⟩
  · rw [decide_eq_false h, List.any_eq_false]
    intro y hy e
    have e : (y == z) = true := e
    exact h (by rw [← eq_of_beq e]; exact hy)
theorem inV_int (z : Int) (ms : List Int) : inV (.int z) (ms.map V.int) = decide (z ∈ ms) := by
  unfold inV
  rw [List.any_map]
  by_cases h : z ∈ ms
  · rw [decide_eq_true h, List.any_eq_true]
    exact ⟨z, h, by show (z == z) = true; exact beq_self_eq_true z⟩
  · rw [decide_eq_false h, List.any_eq_false]
    intro y hy e
    have e : (y == z) = true := e
    exact h (by rw [← eq_of_beq e]; exact hy)
theorem inV_non (ms : List Int) : inV .non (ms.map V.int) = false := by
  unfold inV
  rw [List.any_map, List.any_eq_false]
  intro y hy e
  cases e
theorem flat_strs (ms : List Str) : (ms.map V.str).all flatV = true := by
  rw [List.all_map, List.all_eq_true]
  intro y _
  rfl
theorem flat_ints (ms : List Int) : (ms.map V.int).all flatV = true := by
  rw [List.all_map, List.all_eq_true]
  intro y _
  rfl
theorem nm_abc {n : Nat} {z : Str} (h : isNmB n z = true) : 0 < z.length ∧ z.length ≤ n ∧ ∀ c ∈ tl z, c ∈ abc := by
  unfold isNmB isOf at h
  rw [Bool.and_eq_true, Bool.and_eq_true, decide_eq_true_eq, decide_eq_true_eq, List.all_eq_true] at h
  refine ⟨h.2.1, h.1, fun c hc => ?_⟩
  have := of_decide_eq_true (h.2.2 c hc)
  rwa [show tl ("abcdefghijklmnopqrstuvwxyz" : Str) = abc from abc_tl] at this
theorem dp_strs {K : PySem.W.Frag} {H : Hp} : ∀ ms : List Str, DpAll K H (ms.map V.str) (ms.map PyData.str)
  | [] => .nil
  | z :: r => .cons (.str z) (dp_strs r)
theorem depth_strs : ∀ ms : List Str, PyData.depthAll (ms.map PyData.str) = 0
  | [] => by simp [PyData.depthAll]
  | z :: r => by
    rw [List.map_cons]
    simp [PyData.depthAll, PyData.depth, depth_strs r]
theorem lay_strs : ∀ {ms : List Str}, (∀ z ∈ ms, PyData.strOk z = true) → PyData.canLayAll0 (ms.map PyData.str) = true
  | [], _ => by simp [PyData.canLayAll0]
  | z :: r, h => by
    rw [List.map_cons]
    simp [PyData.canLayAll0, PyData.canLay0, lay_strs fun y hy => h y (List.mem_cons_of_mem _ hy), h z List.mem_cons_self]
theorem shaped_strs {ms : List Str} (h : ∀ z ∈ ms, PyData.strOk z = true) : SeqAt.shaped (.list (ms.map PyData.str)) = true := by
  unfold SeqAt.shaped
  rw [Bool.and_eq_true]
  refine ⟨?_, decide_eq_true ?_⟩
  · simp only [PyData.canLay0]
    exact lay_strs h
  · simp only [PyData.depth, depth_strs]
    decide
theorem shaped_nil : SeqAt.shaped (.list []) = true := shaped_strs (ms := []) fun _ h => by cases h
theorem eqv_nil (ms : List Str) : PyData.eqv (.list (ms.map PyData.str)) (.list []) = decide (ms = []) := by
  cases ms with
  | nil => simp [PyData.eqv, PyData.eqvAll]
  | cons z r => simp [PyData.eqv, PyData.eqvAll]
theorem strOk_nm {n : Nat} {z : Str} (h : isNmB n z = true) : PyData.strOk z = true := by
  have h3 := (nm_abc h).2.2
  unfold PyData.strOk
  rw [← Array.all_toList, List.all_eq_true]
  intro c hc
  have := h3 c hc
  unfold abc at this
  refine decide_eq_true ?_
  simp only [List.mem_cons, List.mem_nil_iff, or_false] at this
  omega
/-! lines of books -/
end OG
set_option Elab.async false
set_option linter.all false
set_option maxRecDepth 100000
set_option maxHeartbeats 8000000
namespace OG
open PySem PySem.Spec PyProof.Rows L2
theorem spl_ne (S : List Nat) (l : List Nat) : ∀ (k : Nat) (acc : List Nat), TL.spl S k acc l ≠ [] := by
  induction l with
  | nil =>
    intro k acc h
    unfold TL.spl at h
    cases h
  | cons c r ih =>
    intro k acc h
    cases k with
    | zero =>
      simp only [TL.spl] at h
      split at h
      · cases h
      · exact ih _ _ h
    | succ k =>
      simp only [TL.spl] at h
      exact ih _ _ h
theorem split_facts (z y : Str) (hy : y.length = 1) (h256 : y.cps.all (· < 256) = true) : Txt.split z y ≠ [] ∧ (Txt.split z y).length ≤ z.length + 1 ∧ ∀ p ∈ Txt.split z y, p.length ≤ z.length := by
  have hyn : TL.tl y ≠ [] := fun e => by
    have := TL.len_tl y
    rw [e, hy] at this
    cases this
  have e := TL.split_spl z y hyn (TL.kind_ok h256)
  have hne : Txt.split z y ≠ [] := fun n => by
    rw [n] at e
    exact spl_ne _ _ _ _ e.symm
  refine ⟨hne, ?_⟩
  have j := PySem.StrLaws.join_split z y
  have jt := congrArg TL.tl j
  rw [TL.tl_join] at jt
  have key : ∀ (S : List Nat) (ls : List (List Nat)), ls ≠ [] → S.length = 1 → (TL.joinL S ls).length + 1 = (ls.map fun l => l.length + 1).sum := by
    intro S ls
    induction ls with
    | nil => intro h _; exact absurd rfl h
    | cons p r ih =>
      intro _ hS
      cases r with
      | nil =>
        show p.length + 1 = _
        simp
      | cons q r' =>
        have ih := ih (by simp) hS
        show (p ++ (S ++ TL.joinL S (q :: r'))).length + 1 = _
        rw [List.length_append, List.length_append, List.map_cons, List.sum_cons, ← ih]
        omega
  have k := key (TL.tl y) ((Txt.split z y).map TL.tl) (by simpa using hne) (by rw [← TL.len_tl]; exact hy)
  rw [jt, ← TL.len_tl, List.map_map] at k
  have lens : ∀ ls : List Str, ls.length ≤ (ls.map ((fun l => l.length + 1) ∘ TL.tl)).sum ∧ ∀ p ∈ ls, p.length + 1 ≤ (ls.map ((fun l => l.length + 1) ∘ TL.tl)).sum := by
    intro ls
    induction ls with
    | nil => exact ⟨Nat.le_refl _, fun p h => by cases h⟩
    | cons p r ih =>
      rw [List.map_cons, List.sum_cons]
      have ep : ((fun l : List Nat => l.length + 1) ∘ TL.tl) p = p.length + 1 := by
        show (TL.tl p).length + 1 = _
        rw [← TL.len_tl]
      rw [ep]
      refine ⟨by rw [List.length_cons]; omega, fun q hq => ?_⟩
      rcases List.mem_cons.mp hq with e | e
      · rw [e]
        omega
      · have := ih.2 q e
        omega
  obtain ⟨l1, l2⟩ := lens (Txt.split z y)
  exact ⟨by omega, fun p hp => by have := l2 p hp; omega⟩
theorem head_num : ∀ (n : Nat), (TL.numL n).head? = some 48 → n = 0 := by
  intro n
  induction n using Nat.strongRecOn with
  | _ n ih =>
    intro h
    by_cases h10 : n < 10
    · rw [TL.numL_lt h10] at h
      have : 48 + n = 48 := Option.some.inj h
      omega
    · rw [TL.numL_step (by omega)] at h
      have hne := TL.numL_ne (n / 10)
      cases e : TL.numL (n / 10) with
      | nil => exact absurd e hne
      | cons c r =>
        rw [e] at h
        have h : (TL.numL (n / 10)).head? = some 48 := by
          rw [e]
          exact h
        have := ih (n / 10) (by omega) h
        omega
theorem tl_istr_nat (n : Nat) : tl (istr (n : Int)) = TL.numL n := TL.tl_num n
theorem tl_istr_neg {n : Int} (h : n < 0) : tl (istr n) = 45 :: tl (istr (0 - n)) := by
  unfold istr
  rw [toString_neg h]
  show (Str.ofString ("-" ++ toString (0 - n))).cps.toList = 45 :: (Str.ofString (toString (0 - n))).cps.toList
  rw [signs_ofString, signs_ofString, String.toList_append, List.map_append]
  rfl
theorem num_q {n : Nat} (h : n ≤ 1000000000000) : NumQ 14 (TL.numL n) ∧ numV (TL.numL n) = (n : Int) := by
  have ha := TL.numL_digits n
  have hv := TL.numL_val n
  have hl := TL.numL_len (n := n) (k := 13) (by decide) (by omega)
  have hh := head_num n
  have hne := TL.numL_ne n
  cases e : TL.numL n with
  | nil => exact absurd e hne
  | cons c r =>
    rw [e] at ha hv hl hh
    have hc := ha.head
    have hc45 : c ≠ 45 := by omega
    refine ⟨⟨?_, ?_, ?_, ?_⟩, ?_⟩
    · rw [figs_pos hc45]
      exact Nat.succ_le_succ (Nat.zero_le _)
    · rw [figs_pos hc45]
      omega
    · rw [figs_pos hc45]
      exact ha
    · rw [figs_pos hc45]
      intro z
      have n0 := hh z
      rw [n0] at e
      rw [← e]
      rfl
    · rw [numV_pos hc45, hv]
theorem istr_q {i : Int} (h1 : -1000000000000 ≤ i) (h2 : i ≤ 1000000000000) : numQ 14 (tl (istr i)) = true ∧ numV (tl (istr i)) = i := by
  by_cases h : i < 0
  · obtain ⟨n, hn⟩ : ∃ n : Nat, 0 - i = (n : Int) := ⟨(0 - i).toNat, by omega⟩
    have q := num_q (n := n) (by omega)
    rw [tl_istr_neg h, hn, tl_istr_nat]
    have n0 : n ≠ 0 := by omega
    have hd : (TL.numL n).head? ≠ some 48 := fun z => n0 (head_num n z)
    refine ⟨numQ_iff.mpr ⟨?_, ?_, ?_, ?_⟩, ?_⟩
    · rw [figs_neg]
      exact List.length_pos_iff.mpr (TL.numL_ne n)
    · rw [figs_neg]
      exact Nat.le_trans (TL.numL_len (k := 13) (by decide) (by omega)) (by decide)
    · rw [figs_neg]
      exact TL.numL_digits n
    · rw [figs_neg]
      exact fun z => absurd z hd
    · rw [numV_neg, TL.numL_val]
      omega
  · obtain ⟨n, rfl⟩ := Int.eq_ofNat_of_zero_le (show 0 ≤ i by omega)
    have q := num_q (n := n) (by omega)
    rw [show ((n : Nat) : Int) = (n : Int) from rfl, tl_istr_nat]
    exact ⟨numQ_iff.mpr q.1, q.2⟩
/-! texts put together, read back -/
theorem istr_free {i : Int} {c : Nat} (hc : c < 45) : c ∉ tl (istr i) := by
  by_cases h : i < 0
  · obtain ⟨n, hn⟩ : ∃ n : Nat, 0 - i = (n : Int) := ⟨(0 - i).toNat, by omega⟩
    rw [tl_istr_neg h, hn, tl_istr_nat]
    intro m
    rcases List.mem_cons.mp m with e | e
    · omega
    · exact TL.numL_free (.inl (by omega)) e
  · obtain ⟨n, rfl⟩ := Int.eq_ofNat_of_zero_le (show 0 ≤ i by omega)
    rw [show ((n : Nat) : Int) = (n : Int) from rfl, tl_istr_nat]
    exact TL.numL_free (.inl (by omega))
theorem nm_free {z : Str} {c : Nat} (h : IsNm z) (hc : c < 97) : c ∉ tl z := fun m => by
  have := h.2.2 c m
  unfold abc at this
  simp only [List.mem_cons, List.mem_nil_iff, or_false] at this
  omega
theorem split_nl {ls : List Str} (hne : ls ≠ []) (h : ∀ l ∈ ls, 10 ∉ tl l) : Txt.split (Txt.join "\n" ls) "\n" = ls := TL.split_join (s := 10) (S := []) (by decide +kernel) (by decide +kernel) hne h
theorem split_sp {ls : List Str} (hne : ls ≠ []) (h : ∀ l ∈ ls, 32 ∉ tl l) : Txt.split (Txt.join " " ls) " " = ls := TL.split_join (s := 32) (S := []) (by decide +kernel) (by decide +kernel) hne h
theorem joinL_cons (S a : List Nat) : ∀ {r : List (List Nat)}, r ≠ [] → TL.joinL S (a :: r) = a ++ (S ++ TL.joinL S r)
  | [], h => absurd rfl h
  | _ :: _, _ => rfl
theorem joinL_app (S : List Nat) : ∀ {xs ys : List (List Nat)}, xs ≠ [] → ys ≠ [] → TL.joinL S (xs ++ ys) = TL.joinL S xs ++ (S ++ TL.joinL S ys)
  | [], _, h, _ => absurd rfl h
  | [x], ys, _, h => joinL_cons S x h
  | x :: y :: r, ys, _, h => by
    have ih := joinL_app S (xs := y :: r) (ys := ys) (by simp) h
    show TL.joinL S (x :: ((y :: r) ++ ys)) = _
    rw [joinL_cons S x (by simp), ih, joinL_cons S x (r := y :: r) (by simp)]
    simp only [List.append_assoc]
theorem tl_jn (y : Str) (ls : List Str) : TL.tl (Txt.join y ls) = TL.joinL (TL.tl y) (ls.map TL.tl) := by rw [TL.join_eq, TL.tl_join]
theorem str_ext {a b : Str} (h : TL.tl a = TL.tl b) : a = b := TL.ext_tl h
theorem nmB_of {z : Str} (h : IsNm z) : isNmB 4 z = true := by
  unfold isNmB isOf
  rw [decide_eq_true h.2.1, decide_eq_true (show 0 < z.length from h.1), Bool.true_and, Bool.true_and, List.all_eq_true]
  intro c hc
  refine decide_eq_true ?_
  rw [show tl ("abcdefghijklmnopqrstuvwxyz" : Str) = abc from abc_tl]
  exact h.2.2 c hc
theorem joinL_mem {S : List Nat} {c : Nat} : ∀ {ls : List (List Nat)}, c ∈ TL.joinL S ls → c ∈ S ∨ ∃ l ∈ ls, c ∈ l
  | [], h => by cases h
  | [a], h => .inr ⟨a, List.mem_cons_self, h⟩
  | a :: b :: r, h => by
    rw [joinL_cons S a (by simp)] at h
    rcases List.mem_append.mp h with h | h
    · exact .inr ⟨a, List.mem_cons_self, h⟩
    · rcases List.mem_append.mp h with h | h
      · exact .inl h
      · rcases joinL_mem h with h | ⟨l, hl, hc⟩
        · exact .inl h
        · exact .inr ⟨l, List.mem_cons_of_mem _ hl, hc⟩
theorem join_free {ls : List Str} {c : Nat} (hc : c ≠ 32) (h : ∀ l ∈ ls, c ∉ TL.tl l) : c ∉ TL.tl (Txt.join " " ls) := fun m => by
  rw [tl_jn] at m
  rcases joinL_mem m with m | ⟨l, hl, m⟩
  · have e : TL.tl (" " : Str) = [32] := by decide +kernel
    rw [e, List.mem_singleton] at m
    exact hc m
  · obtain ⟨z, hz, rfl⟩ := List.mem_map.mp hl
    exact h z hz m
theorem has_key : ∀ {kvs : List (Key × V)} {ms : List Str}, kvs.map (·.1) = ms.map Sum.inr → ∀ z : Str, (valV kvs (.inr z)).isSome = decide (z ∈ ms)
  | [], [], _, z => rfl
  | [], _ :: _, h, _ => by cases h
  | _ :: _, [], h, _ => by cases h
  | p :: r, m :: ms, h, z => by
    have h1 : p.1 = .inr m := (List.cons.inj h).1
    have h2 : r.map (·.1) = ms.map Sum.inr := (List.cons.inj h).2
    by_cases e : z = m
    · rw [valV_pos (by rw [h1, e]), decide_eq_true (by rw [e]; exact List.mem_cons_self)]
      rfl
    · rw [valV_neg (by rw [h1]; exact k_ne fun q => e q.symm), has_key h2 z]
      by_cases hz : z ∈ ms
      · rw [decide_eq_true hz, decide_eq_true (List.mem_cons_of_mem _ hz)]
      · rw [decide_eq_false hz, decide_eq_false fun q => (List.mem_cons.mp q).elim e hz]
theorem ne_nat (n k : Nat) : (!decide (V.int (n : Int) = V.int (k : Int))) = !decide (n = k) := by
  by_cases h : n = k
  · rw [h, decide_eq_true rfl, decide_eq_true rfl]
  · rw [decide_eq_false h, decide_eq_false (fun z : V.int (n : Int) = V.int (k : Int) => h (Int.ofNat.inj (V.int.inj z)))]
theorem eq_nat (n k : Nat) : decide (V.int (n : Int) = V.int (k : Int)) = decide (n = k) := by
  by_cases h : n = k
  · rw [h, decide_eq_true rfl, decide_eq_true rfl]
  · rw [decide_eq_false h, decide_eq_false (fun z : V.int (n : Int) = V.int (k : Int) => h (Int.ofNat.inj (V.int.inj z)))]
theorem rgV_nat (n : Nat) : rgV 0 (n : Int) = (List.range n).map fun (i : Nat) => V.int (i : Int) := by
  unfold rgV
  rw [show ((n : Int) - 0).toNat = n by omega]
  exact List.map_congr_left fun i _ => by rw [Int.zero_add]
theorem range_at {m j : Nat} {x : V} (h : ((List.range m).map fun (i : Nat) => V.int (i : Int))[j]? = some x) : j < m ∧ x = .int (j : Int) := by
  have hj := (List.getElem?_eq_some_iff.mp h).1
  rw [List.length_map, List.length_range] at hj
  rw [List.getElem?_map, List.getElem?_range hj] at h
  exact ⟨hj, (Option.some.inj h).symm⟩
end OG
set_option Elab.async false
set_option linter.all false
set_option maxRecDepth 100000
set_option maxHeartbeats 4000000
namespace OGX
open PySem PySem.Spec PyProof.Rows L2
/-- what a value shows, by depth -/
def Leaf : V → PyData → Prop
  | .non, d => d = .none
  | .bl b, d => d = .bool b
  | .int i, d => d = .int i
  | .str z, d => d = .str z
  | _, _ => False
def Rds (K : PySem.W.Frag) (H : Hp) : Nat → V → PyData → Prop
  | 0, v, d => Leaf v d
  | n + 1, v, d => Leaf v d ∨ ∃ (a : Addr) (xs : List V) (ds : List PyData), v = .ref a ∧ Paired (Rds K H n) xs ds ∧ ((H a = some (.lst xs) ∧ d = .list ds) ∨ (SqT K H a xs ∧ d = .tuple ds))
section
variable {X : Cx} {pins : List (Addr × Obj)} {σ : L2.St} {H : Hp} {s : Shared}
theorem leaf_reads {h : Heap} : ∀ {v : V} {d : PyData} {u : Value}, Leaf v d → RelV v u → ∃ as, Reads h u d as
  | .non, _, _, e, r => by
    cases e
    cases (show _ = Value.none from r)
    exact ⟨_, .none⟩
  | .bl b, _, _, e, r => by
    cases e
    cases (show _ = Value.bool b from r)
    exact ⟨_, .bool b⟩
  | .int i, _, _, e, r => by
    cases e
    obtain ⟨t, q⟩ := (show ∃ t, _ = Value.int i t from r)
    cases q
    exact ⟨_, .int i t⟩
  | .str z, _, _, e, r => by
    cases e
    obtain ⟨t, q⟩ := (show ∃ t, _ = Value.str z t from r)
    cases q
    exact ⟨_, .str z t⟩
theorem all_reads {h : Heap} {R : V → PyData → Prop} (one : ∀ v d u, R v d → RelV v u → ∃ as, Reads h u d as) : ∀ {xs : List V} {ds : List PyData} {us : List Value}, Paired R xs ds → Vals xs us → ∃ as, ReadsAll h us ds as
  | _, _, _, .nil, .nil => ⟨_, .nil⟩
  | _, _, _, .cons p q, .cons r t => by
    obtain ⟨a1, h1⟩ := one _ _ _ p r
    obtain ⟨a2, h2⟩ := all_reads one q t
    exact ⟨_, .cons h1 h2⟩
theorem reads_of (I : Inv X pins σ H s) : ∀ (n : Nat) (v : V) (d : PyData) (u : Value), Rds X.K H n v d → RelV v u → ∃ as, Reads s.heap u d as
  | 0, _, _, _, e, r => leaf_reads e r
  | n + 1, v, d, u, e, r => by
    rcases e with e | ⟨a, xs, ds, rfl, p, ⟨ha, rfl⟩ | ⟨ha, rfl⟩⟩
    · exact leaf_reads e r
    · cases (show u = Value.ref a from r)
      obtain ⟨_, its, k, rv, e⟩ := (show ObjOk X.prog X.w H s.heap a (.lst xs) from I.hok a _ ha)
      obtain ⟨as, ra⟩ := all_reads (reads_of I n) p rv
      exact ⟨_, .list e rfl rfl ra⟩
    · cases (show u = Value.ref a from r)
      obtain ⟨its, rv, ⟨o, h1, h2, k, h3⟩, _⟩ := I.tuple ha
      obtain ⟨as, ra⟩ := all_reads (reads_of I n) p rv
      exact ⟨_, .tuple h1 h2 h3 ra⟩
/-- repr of what reads as data -/
def rRepr (K : PySem.W.Frag) : List V → Hp → VK → Prop := fun xs H Q => ∃ (v : V) (n : Nat) (d : PyData), xs = [v] ∧ Rds K H n v d ∧ d.showable = true ∧ d.hasDict = false ∧ d.depth ≤ 60 ∧ d.shown.length ≤ sizeLine ∧ Q (.str d.shown) H
theorem repr_go {X : Cx} {pins : List (Addr × Obj)} {σ : L2.St} {H : Hp} {s : Shared} {Q : VK} {u : Value} {d : PyData} {as : List Addr} (hg : X.A.guards = some []) (hu : X.A.units + 64 < cLine) (I : Inv X pins σ H s) (R : Reads s.heap u d as)
    (hs : d.showable = true) (hd : d.hasDict = false) (hp : d.depth ≤ 60) (hz : d.shown.length ≤ sizeLine) (q : Q (.str d.shown) H) : wpAny (model X.prog X.w) X.A (call (.builtin "repr") [u]) (EP X pins σ Q) X.xe s := by
  have back : ∀ t' : Nat, EP X pins σ Q (.str d.shown s.toks) { s with toks := t' } := fun t' => ⟨.str d.shown, H, I.tok _, ⟨_, rfl⟩, q⟩
  have far : ∀ {a : Addr}, Reads s.heap (.ref a) d as → wpAny (model X.prog X.w) X.A (call (.builtin "repr") [.ref a]) (EP X pins σ Q) X.xe s := fun {a} R =>
    repr_of_reads' R hs (PyData.noDict_hsm hd) hg (by omega) (fun _ _ z => z) (fun h' t tk k => ⟨.str d.shown, H, I.kept k, ⟨_, rfl⟩, q⟩) hz
  cases R with
  | none =>
    rw [PyData.shown_none] at back
    exact PySem.P.repr_of_none (back _)
  | bool b =>
    rw [PyData.shown_bool] at back
    refine PySem.P.repr_of_bool ?_
    cases b <;> exact back _
  | int i t =>
    rw [PyData.shown_int] at back
    exact PySem.P.repr_of_int (of_decide_eq_true hs) (back _)
  | str x t =>
    rw [PyData.shown_str] at back hz
    exact PySem.P.repr_of_str (back _) hz
  | list h1 h2 h3 h4 => exact far (.list h1 h2 h3 h4)
  | tuple h1 h2 h3 h4 => exact far (.tuple h1 h2 h3 h4)
  | dict h1 h2 h3 h4 h5 => exact far (.dict h1 h2 h3 h4 h5)
theorem call_reprD (hg : X.A.guards = some []) (hu : X.A.units + 64 < cLine) : CallR X (.builtin "repr") (rRepr X.K) := by
  intro pins s σ H xs us Q I r h
  obtain ⟨v, n, d, rfl, e, hs, hd, hp, hz, q⟩ := h
  obtain ⟨u, rfl, ru⟩ := vals1 r
  obtain ⟨as, R⟩ := reads_of I n v d u e ru
  exact repr_go hg hu I R hs hd hp hz q
end
section
variable {X : Cx} {CX : CXT} {k : Nat} {f C : Addr} {fd : FuncData} {ps : List Str} {sp : Sp} {E : XK}
/-- an own method called by the interpreter, under a builtin -/
theorem run_own {A : Around} {pins : List (Addr × Obj)} {σ : L2.St} {H : Hp} {s : Shared} {Q : VK} {us : List Value} {vs : List V} (F : FnOk X.prog X.w X.K X.mg X.base CX k f fd ps sp) (hr : Room k A) (hf : A.frames = X.A.frames) (hb : Binds X.K fd ps []) (hx : Passes CX X E)
    (I : Inv X pins σ H s) (r : Vals vs us) (h : sp vs H Q E) : wpAny (model X.prog X.w) A (call (.ref f) us) (EP X pins σ Q) X.xe s := by
  have hl : us.length = ps.length := by rw [← r.length]; exact F.len _ _ _ _ h
  have e0 := I.env0
  have e1 : Env0 X.prog X.w X.K X.mg X.base A X.stack s H := ⟨by rw [hf]; exact e0.frames, e0.mod, e0.bs, e0.bsz, e0.funs, e0.frf, e0.hok, e0.bare⟩
  have b := hb s us I.kIn (by rw [List.append_nil]; exact hl)
  rw [List.append_nil] at b
  refine wpAny_call (codeAny_mono (F.run A X.stack s H ⟨us, []⟩ us vs Q E hr e1 b r h) fun z s' hq => ?_)
  rcases z with e | fl
  · exact hx pins σ H s e s' I hq
  · rcases fl with _ | _ | _ | u
    all_goals first | exact I.after hq | exact hq.elim
/-- len(o), o with an own __len__ -/
theorem call_lenOwn (F : FnOk X.prog X.w X.K X.mg X.base CX k f fd ps sp) (hr : Room (k + 1) X.A) (hs : PySem.W.findIn X.K (.ref C) "__len__" = some (some (.ref f))) (hf : PySem.W.isFn X.K (.ref f) = true) (hb : Binds X.K fd ps []) (hx : Passes CX X E) :
    CallR X (.builtin "len") (fun xs H Q => ∃ (x dx : Addr) (fs : List (Str × V)), xs = [.ref x] ∧ H x = some (.ins C dx fs) ∧ sp [.ref x] H (fun v H' => ∃ n : Int, v = .int n ∧ 0 ≤ n ∧ n < 2 ^ 63 ∧ Q (.int n) H') E) := by
  intro pins s σ H xs us Q I r h
  obtain ⟨x, dx, fs, rfl, hx0, q⟩ := h
  obtain ⟨u, rfl, ru⟩ := vals1 r
  cases ru
  obtain ⟨mA, J, _⟩ := ins_get I.hok hx0
  obtain ⟨od, J, _⟩ := J.look
  obtain ⟨m, hF⟩ := I.fr
  refine PySem.W.len_K hF I.ok.mod.kin J hs hf (wpAny_mono (run_own (A := X.A.in1) F hr.in1 rfl hb hx I (.cons (show L2.RelV (.ref x) (Value.ref x) from rfl) .nil) q) (fun v s' z => ?_) fun _ _ z => z)
  obtain ⟨y, H', I', ry, n, rfl, n0, n1, q'⟩ := z
  obtain ⟨t, rfl⟩ := ry
  exact ⟨⟨n0, n1⟩, .int n, H', I'.tok _, ⟨_, rfl⟩, q'⟩
/-- v in o, o with an own __contains__ -/
def rInO (C : Addr) (sp : Sp) (E : XK) (neg : Bool) : R2 := fun x y H Q => ∃ (a dx : Addr) (fs : List (Str × V)), y = .ref a ∧ H a = some (.ins C dx fs) ∧ sp [.ref a, x] H (fun v H' => ∃ b, v = .bl b ∧ Q (.bl (if neg = true then !b else b)) H') E
theorem op_inOwn (F : FnOk X.prog X.w X.K X.mg X.base CX k f fd ps sp) (hr : Room k X.A) (hs : PySem.W.findIn X.K (.ref C) "__contains__" = some (some (.ref f))) (hf : PySem.W.isFn X.K (.ref f) = true) (hb : Binds X.K fd ps []) (hx : Passes CX X E) :
    OpR X (compareOp .In) (rInO C sp E false) := by
  intro pins s σ H x y v u Q I rx ry h
  obtain ⟨a, dx, fs, rfl, hx0, q⟩ := h
  cases ry
  obtain ⟨mA, J, _⟩ := ins_get I.hok hx0
  obtain ⟨od, J, _⟩ := J.look
  obtain ⟨m, hF⟩ := I.fr
  refine PySem.W.in_K hF I.ok.mod.kin J hs hf (wpAny_mono (run_own F hr rfl hb hx I (.cons (show L2.RelV (.ref a) (Value.ref a) from rfl) (.cons rx .nil)) q) (fun v s' z => ?_) fun _ _ z => z)
  obtain ⟨y, H', I', ry, b, rfl, q'⟩ := z
  cases ry
  exact wpAny_truthy_bool ⟨.bl b, H', I', rfl, q'⟩
theorem op_notInOwn (F : FnOk X.prog X.w X.K X.mg X.base CX k f fd ps sp) (hr : Room k X.A) (hs : PySem.W.findIn X.K (.ref C) "__contains__" = some (some (.ref f))) (hf : PySem.W.isFn X.K (.ref f) = true) (hb : Binds X.K fd ps []) (hx : Passes CX X E) :
    OpR X (compareOp .NotIn) (rInO C sp E true) := by
  intro pins s σ H x y v u Q I rx ry h
  obtain ⟨a, dx, fs, rfl, hx0, q⟩ := h
  cases ry
  obtain ⟨mA, J, _⟩ := ins_get I.hok hx0
  obtain ⟨od, J, _⟩ := J.look
  obtain ⟨m, hF⟩ := I.fr
  refine PySem.W.notIn_K hF I.ok.mod.kin J hs hf (wpAny_mono (run_own F hr rfl hb hx I (.cons (show L2.RelV (.ref a) (Value.ref a) from rfl) (.cons rx .nil)) q) (fun v s' z => ?_) fun _ _ z => z)
  obtain ⟨y, H', I', ry, b, rfl, q'⟩ := z
  cases ry
  exact wpAny_truthy_bool ⟨.bl (!b), H', I', rfl, q'⟩
/-- o == v, o with an own __eq__, v another such object or a text -/
def rEqO (K : PySem.W.Frag) (C : Addr) (sp : Sp) (E : XK) : R2 := fun x y H Q => ∃ (a dx : Addr) (fs : List (Str × V)), x = .ref a ∧ H a = some (.ins C dx fs) ∧ ((∃ (b dy : Addr) (gs : List (Str × V)), y = .ref b ∧ H b = some (.ins C dy gs)) ∨ ((∃ z, y = .str z) ∧ PySem.W.notFirst K C (.type "str") = true)) ∧
  sp [.ref a, y] H (fun v H' => ∃ b, v = .bl b ∧ Q (.bl b) H') E
theorem op_eqOwn (F : FnOk X.prog X.w X.K X.mg X.base CX k f fd ps sp) (hr : Room k X.A) (hs : PySem.W.findIn X.K (.ref C) "__eq__" = some (some (.ref f))) (hf : PySem.W.isFn X.K (.ref f) = true) (hb : Binds X.K fd ps []) (hx : Passes CX X E) :
    OpR X (compareOp .Eq) (rEqO X.K C sp E) := by
  intro pins s σ H x y v u Q I rx ry h
  obtain ⟨a, dx, fs, rfl, hx0, hy, q⟩ := h
  cases rx
  obtain ⟨mA, J, _⟩ := ins_get I.hok hx0
  obtain ⟨od, J, _⟩ := J.look
  obtain ⟨m, hF⟩ := I.fr
  have fin : ∀ tb, PySem.W.Looks (model X.prog X.w) s.heap (typeOf u) tb → PySem.W.notFirst X.K C tb = true → wpAny (model X.prog X.w) X.A (compareOp .Eq (.ref a) u) (EP X pins σ Q) X.xe s := fun tb ht hn =>
    PySem.W.cmp_K (op := .Eq) hr.units0 hF I.ok.mod.kin J ht hn hs hf (wpAny_mono (run_own F hr rfl hb hx I (.cons (show L2.RelV (.ref a) (Value.ref a) from rfl) (.cons ry .nil)) q) (fun v s' z => by
      obtain ⟨y, H', I', ry, b, rfl, q'⟩ := z
      cases ry
      exact ⟨.bl b, H', I', rfl, q'⟩) fun _ _ z => z)
  rcases hy with ⟨b, dy, gs, rfl, hb0⟩ | ⟨⟨z, rfl⟩, hn⟩
  · cases ry
    obtain ⟨mB, J', _⟩ := ins_get I.hok hb0
    obtain ⟨od', J', _⟩ := J'.look
    exact fin _ J'.type (by simp [PySem.W.notFirst])
  · obtain ⟨t, rfl⟩ := ry
    exact fin _ (PySem.W.Looks.of_pure rfl) hn
end
section
variable {X : Cx} {o e : Expr} {es : List Expr} {to : TE} {t : TA} {name : Str} {apos cpos : Pos} {id : String} {r : V → List V → Hp → VK → Prop}
/-- o.name(e, ..), o a tuple that stands as the very object -/
def tTupF (r : V → List V → Hp → VK → Prop) (to : TE) (t : TA) : TE := fun σ H Q => to σ H fun x H1 => (∃ (p : Addr) (ob : Obj) (ys : List V), x = .ref p ∧ H1 p = some (.frz ob (.tup ys)) ∧ ob.dict = none) ∧ t σ H1 fun xs H2 => r x xs H2 Q
theorem pe_tupF (pa : PlainAttrs "tuple") (slot : Slot "tuple" name id) (ty : typeOf (.builtin id) = pure (.type "method_descriptor")) (hm : MtR X id r) (ho : PE X o to) (ha : PA X (e :: es) t) (hbase : attributeBase o name X.env (eval o X.env) = eval o X.env := by rfl)
    (few : ((backTo cpos (starEach (e :: es) X.env)).all (fun x => !x.1) && (backToKw cpos (keywordEach [] X.env)).all (fun x => x.1.isSome) && decide ((e :: es).length + ([] : List Keyword).length + (if ([] : List Keyword).isEmpty then 0 else 1) < 30)) = true := by rfl)
    (line : (apos.endLine == cpos.line) = true := by rfl) (st : starEach (e :: es) X.env = (false, eval e X.env) :: starEach es X.env := by rfl) (pl : (backTo cpos (starEach es X.env)).any (·.1) = false := by rfl) :
    PE X (.Call (.Attribute o name apos) (e :: es) [] cpos) (tTupF r to t) := by
  refine ⟨fun pins s σ H Q I h => wpAny_Call_method_late hbase few line rfl (thn (ho.run pins s σ H _ I h) ?_)⟩
  rintro v s1 ⟨x, H1, I1, rx, ⟨p, ob, ys, rfl, hp, hd⟩, q⟩
  cases (show v = Value.ref p from rx)
  obtain ⟨g, _, _, _, ob', g1, g2, _⟩ := (show ObjOk X.prog X.w H1 s1.heap p (.frz ob (.tup ys)) from I1.hok p _ hp)
  refine ⟨"tuple", id, pa, slot, ty, ⟨ob', g1, g2⟩, fun a z => ?_, ?_⟩
  · cases z
    exact ⟨ob, g, hd⟩
  · have A := ha.run cpos pins s1 σ H1 _ I1 q
    rw [st] at A ⊢
    refine Calls.callWith_builtin (by show (false || (backTo cpos (starEach es X.env)).any (·.1)) = false; rw [pl] <;> rfl) (Calls.evalArgs_plain ?_)
    exact thn A fun us s2 ⟨vs, H2, I2, r2, q2⟩ => hm pins s2 σ H2 (.ref p) vs (.ref p) us Q I2 rfl r2 q2
end
end OGX
set_option Elab.async false
set_option linter.all false
set_option maxRecDepth 100000
set_option maxHeartbeats 4000000
namespace OG
open PySem PySem.Spec PyProof.Rows L2
/-- data that repr may be asked of -/
structure DOk (k c : Nat) (d : PyData) : Prop where
  sh : d.showable = true
  nd : d.hasDict = false
  dp : d.depth ≤ k
  ln : d.shown.length ≤ c
theorem DOk.mono {k c j e : Nat} {d : PyData} (h : DOk k c d) (h1 : k ≤ j) (h2 : c ≤ e) : DOk j e d := ⟨h.sh, h.nd, Nat.le_trans h.dp h1, Nat.le_trans h.ln h2⟩
theorem dok_int {i : Int} (h1 : -1000000000000 ≤ i) (h2 : i ≤ 1000000000000) : DOk 0 50 (.int i) := by
  refine ⟨?_, by simp only [PyData.hasDict], by simp only [PyData.depth]; exact Nat.le_refl _, ?_⟩
  · simp only [PyData.showable]
    exact decide_eq_true (small_log h1 h2)
  · rw [PyData.shown_int]
    exact Nat.le_trans (istr_len h1 h2) (by decide)
theorem dok_str {z : Str} (hz : IsNm z) : DOk 0 50 (.str z) := by
  refine ⟨by simp only [PyData.showable], by simp only [PyData.hasDict], by simp only [PyData.depth]; exact Nat.le_refl _, ?_⟩
  rw [PyData.shown_str]
  have h := StrLaws.reprText_len z fun c hc => by
    have h1 := hz.2.2 c hc
    have h2 : ∀ c ∈ abc, c < 16 ^ 8 := by decide +kernel
    exact h2 c h1
  have := hz.2.1
  omega
theorem dok_bool (b : Bool) : DOk 0 50 (.bool b) := by
  refine ⟨by simp only [PyData.showable], by simp only [PyData.hasDict], by simp only [PyData.depth]; exact Nat.le_refl _, ?_⟩
  rw [PyData.shown_bool]
  cases b <;> decide +kernel
theorem shownAll_map : ∀ ds : List PyData, PyData.shownAll ds = ds.map PyData.shown
  | [] => by rw [PyData.shownAll_nil]; rfl
  | d :: r => by rw [PyData.shownAll_cons, shownAll_map r]; rfl
theorem sum_le_mul {c : Nat} : ∀ {l : List Nat}, (∀ x ∈ l, x ≤ c) → l.sum ≤ c * l.length
  | [], _ => Nat.zero_le _
  | x :: r, h => by
    have h1 := h x List.mem_cons_self
    have h2 := sum_le_mul fun y hy => h y (List.mem_cons_of_mem _ hy)
    rw [List.sum_cons, List.length_cons, Nat.mul_succ]
    omega
theorem parts_ok {k c : Nat} : ∀ {ds : List PyData}, (∀ d ∈ ds, DOk k c d) → PyData.showableAll ds = true ∧ PyData.hasDictAll ds = false ∧ PyData.depthAll ds ≤ k
  | [], _ => by
    refine ⟨by simp only [PyData.showableAll], by simp only [PyData.hasDictAll], ?_⟩
    simp only [PyData.depthAll]
    exact Nat.zero_le _
  | d :: r, h => by
    have h1 := h d List.mem_cons_self
    obtain ⟨a, b, e⟩ := parts_ok fun y hy => h y (List.mem_cons_of_mem _ hy)
    refine ⟨by simp only [PyData.showableAll, h1.sh, a]; rfl, by simp only [PyData.hasDictAll, h1.nd, b]; rfl, ?_⟩
    simp only [PyData.depthAll]
    exact Nat.max_le.mpr ⟨h1.dp, e⟩
theorem parts_len {k c n : Nat} {ds : List PyData} (h : ∀ d ∈ ds, DOk k c d) (hn : ds.length ≤ n) : ((PyData.shownAll ds).map (·.length)).sum + 2 * (PyData.shownAll ds).length + 3 ≤ c * n + 2 * n + 3 := by
  rw [shownAll_map, List.length_map]
  have e := sum_le_mul (c := c) (l := (ds.map PyData.shown).map (·.length)) fun x hx => by
    obtain ⟨t, ht, rfl⟩ := List.mem_map.mp hx
    obtain ⟨d, hd, rfl⟩ := List.mem_map.mp ht
    exact (h d hd).ln
  rw [List.length_map, List.length_map] at e
  have := Nat.mul_le_mul_left c hn
  omega
theorem dok_list {k c n : Nat} {ds : List PyData} (h : ∀ d ∈ ds, DOk k c d) (hn : ds.length ≤ n) : DOk (k + 1) (c * n + 2 * n + 3) (.list ds) := by
  obtain ⟨a, b, e⟩ := parts_ok h
  refine ⟨by simp only [PyData.showable, a], by simp only [PyData.hasDict, b], by simp only [PyData.depth]; omega, ?_⟩
  simp only [PyData.shown]
  exact Nat.le_trans (listText_len_le _) (parts_len h hn)
theorem dok_tuple {k c n : Nat} {ds : List PyData} (h : ∀ d ∈ ds, DOk k c d) (hn : ds.length ≤ n) : DOk (k + 1) (c * n + 2 * n + 3) (.tuple ds) := by
  obtain ⟨a, b, e⟩ := parts_ok h
  refine ⟨by simp only [PyData.showable, a], by simp only [PyData.hasDict, b], by simp only [PyData.depth]; omega, ?_⟩
  simp only [PyData.shown]
  exact Nat.le_trans (tupleText_len_le _) (parts_len h hn)
theorem dok_strs {zs : List Str} (h : ∀ z ∈ zs, IsNm z) : ∀ d ∈ zs.map PyData.str, DOk 0 50 d := fun d hd => by
  obtain ⟨z, hz, rfl⟩ := List.mem_map.mp hd
  exact dok_str (h z hz)
theorem dok_ints {zs : List Int} (h : ∀ z ∈ zs, -1000000000000 ≤ z ∧ z ≤ 1000000000000) : ∀ d ∈ zs.map PyData.int, DOk 0 50 d := fun d hd => by
  obtain ⟨z, hz, rfl⟩ := List.mem_map.mp hd
  exact dok_int (h z hz).1 (h z hz).2
theorem dok_bools (zs : List Bool) : ∀ d ∈ zs.map PyData.bool, DOk 0 50 d := fun d hd => by
  obtain ⟨z, hz, rfl⟩ := List.mem_map.mp hd
  exact dok_bool z
/-- what stands in lists and tuples of leaves -/
theorem pr_strs {K : PySem.W.Frag} {H : Hp} (n : Nat) : ∀ zs : List Str, Paired (OGX.Rds K H n) (zs.map V.str) (zs.map PyData.str)
  | [] => .nil
  | z :: r => .cons (by cases n <;> first | exact rfl | exact .inl rfl) (pr_strs n r)
theorem pr_ints {K : PySem.W.Frag} {H : Hp} (n : Nat) : ∀ zs : List Int, Paired (OGX.Rds K H n) (zs.map V.int) (zs.map PyData.int)
  | [] => .nil
  | z :: r => .cons (by cases n <;> first | exact rfl | exact .inl rfl) (pr_ints n r)
theorem pr_bools {K : PySem.W.Frag} {H : Hp} (n : Nat) : ∀ zs : List Bool, Paired (OGX.Rds K H n) (zs.map V.bl) (zs.map PyData.bool)
  | [] => .nil
  | z :: r => .cons (by cases n <;> first | exact rfl | exact .inl rfl) (pr_bools n r)
theorem rds_list {K : PySem.W.Frag} {H : Hp} {n : Nat} {a : Addr} {xs : List V} {ds : List PyData} (h : H a = some (.lst xs)) (p : Paired (OGX.Rds K H n) xs ds) : OGX.Rds K H (n + 1) (.ref a) (.list ds) := .inr ⟨a, xs, ds, rfl, p, .inl ⟨h, rfl⟩⟩
theorem rds_tup {K : PySem.W.Frag} {H : Hp} {n : Nat} {a : Addr} {xs : List V} {ds : List PyData} (h : SqT K H a xs) (p : Paired (OGX.Rds K H n) xs ds) : OGX.Rds K H (n + 1) (.ref a) (.tuple ds) := .inr ⟨a, xs, ds, rfl, p, .inr ⟨h, rfl⟩⟩
end OG
set_option Elab.async false
set_option linter.all false
set_option maxRecDepth 100000
set_option maxHeartbeats 8000000
namespace OG
open PySem PySem.Spec PyProof.Rows L2
theorem str_at {xs : List Str} {i : Nat} {x : V} (h : (xs.map V.str)[i]? = some x) : ∃ z, xs[i]? = some z ∧ x = .str z := by
  rw [List.getElem?_map] at h
  cases e : xs[i]? with
  | none =>
    rw [e] at h
    cases h
  | some z =>
    rw [e] at h
    exact ⟨z, rfl, (Option.some.inj h).symm⟩
theorem int_at {xs : List Int} {i : Nat} {x : V} (h : (xs.map V.int)[i]? = some x) : ∃ z, xs[i]? = some z ∧ x = .int z := by
  rw [List.getElem?_map] at h
  cases e : xs[i]? with
  | none =>
    rw [e] at h
    cases h
  | some z =>
    rw [e] at h
    exact ⟨z, rfl, (Option.some.inj h).symm⟩
/-! tuples stay -/
def TK (H H' : Hp) : Prop := (∀ b xs, H b = some (.tup xs) → H' b = some (.tup xs)) ∧ ∀ b o xs, H b = some (.frz o (.tup xs)) → H' b = some (.frz o (.tup xs))
theorem TK.refl (H : Hp) : TK H H := ⟨fun _ _ h => h, fun _ _ _ h => h⟩
theorem TK.trans {H H1 H2 : Hp} (a : TK H H1) (b : TK H1 H2) : TK H H2 := ⟨fun c xs h => b.1 c xs (a.1 c xs h), fun c o xs h => b.2 c o xs (a.2 c o xs h)⟩
theorem Same.tk {H H' : Hp} (s : Same H H') : TK H H' := ⟨fun _ _ h => s _ _ h, fun _ _ _ h => s _ _ h⟩
theorem Kp.tk {p : Addr} {H H' : Hp} (k : Kp p H H') (hp : ∃ xs, H p = some (.lst xs)) : TK H H' := by
  obtain ⟨ys, hp⟩ := hp
  refine ⟨fun b xs h => k _ _ (fun z => ?_) h, fun b o xs h => k _ _ (fun z => ?_) h⟩
  · rw [z, hp] at h
    cases h
  · rw [z, hp] at h
    cases h
theorem tk_lst {H : Hp} {D : Addr} {xs : List V} {o : HO} (h : H D = some (.lst xs)) : TK H (upd H D o) := ⟨fun b ys e => by rw [upd_ne (fun z => by rw [z, h] at e; cases e)]; exact e, fun b u ys e => by rw [upd_ne (fun z => by rw [z, h] at e; cases e)]; exact e⟩
theorem tk_dK {H : Hp} {D : Addr} {kvs : List (Key × V)} {o : HO} (h : H D = some (.dK kvs)) : TK H (upd H D o) := ⟨fun b ys e => by rw [upd_ne (fun z => by rw [z, h] at e; cases e)]; exact e, fun b u ys e => by rw [upd_ne (fun z => by rw [z, h] at e; cases e)]; exact e⟩
theorem tk_new {H : Hp} {D : Addr} {o : HO} (h : H D = none) : TK H (upd H D o) := Same.tk (same_new h)
theorem ExtN.tk {H H' : Hp} (e : LamX.ExtN H H') : TK H H' := ⟨fun _ _ h => e _ _ h fun _ z => by (cases z), fun _ _ _ h => e _ _ h fun _ z => by (cases z)⟩
theorem SqT.tk {K : PySem.W.Frag} {H H' : Hp} {a : Addr} {xs : List V} (h : SqT K H a xs) (e : TK H H') : SqT K H' a xs :=
  h.elim (fun h => .inl (h.elim (fun h => .inl (e.1 _ _ h)) fun ⟨o, h⟩ => .inr ⟨o, e.2 _ _ _ h⟩)) fun h => .inr h
/-! data of tuples alone -/
mutual
inductive Td (K : PySem.W.Frag) (H : Hp) : V → PyData → Prop
  | non : Td K H .non .none
  | bl (b : Bool) : Td K H (.bl b) (.bool b)
  | int (i : Int) : Td K H (.int i) (.int i)
  | str (z : Str) : Td K H (.str z) (.str z)
  | tup {a : Addr} {xs : List V} {ds : List PyData} : SqT K H a xs → TdAll K H xs ds → Td K H (.ref a) (.tuple ds)
inductive TdAll (K : PySem.W.Frag) (H : Hp) : List V → List PyData → Prop
  | nil : TdAll K H [] []
  | cons {x : V} {d : PyData} {xs : List V} {ds : List PyData} : Td K H x d → TdAll K H xs ds → TdAll K H (x :: xs) (d :: ds)
end
mutual
theorem Td.mv {K : PySem.W.Frag} {H H' : Hp} (s : TK H H') : ∀ {v : V} {d : PyData}, Td K H v d → Td K H' v d
  | _, _, .non => .non
  | _, _, .bl b => .bl b
  | _, _, .int i => .int i
  | _, _, .str z => .str z
  | _, _, .tup h a => .tup (SqT.tk h s) (TdAll.mv s a)
theorem TdAll.mv {K : PySem.W.Frag} {H H' : Hp} (s : TK H H') : ∀ {vs : List V} {ds : List PyData}, TdAll K H vs ds → TdAll K H' vs ds
  | _, _, .nil => .nil
  | _, _, .cons h a => .cons (Td.mv s h) (TdAll.mv s a)
end
mutual
theorem Td.dp {K : PySem.W.Frag} {H : Hp} : ∀ {v : V} {d : PyData}, Td K H v d → Dp K H v d
  | _, _, .non => .non
  | _, _, .bl b => .bl b
  | _, _, .int i => .int i
  | _, _, .str z => .str z
  | _, _, .tup h a => .tup h (TdAll.dp a)
theorem TdAll.dp {K : PySem.W.Frag} {H : Hp} : ∀ {vs : List V} {ds : List PyData}, TdAll K H vs ds → DpAll K H vs ds
  | _, _, .nil => .nil
  | _, _, .cons h a => .cons (Td.dp h) (TdAll.dp a)
end
section
variable {K : PySem.W.Frag} {H : Hp}
theorem Td.tupI {v : V} {ds : List PyData} (h : Td K H v (.tuple ds)) : ∃ a xs, v = .ref a ∧ SqT K H a xs ∧ TdAll K H xs ds := by
  cases h with
  | tup h a => exact ⟨_, _, rfl, h, a⟩
theorem Td.strI {v : V} {z : Str} (h : Td K H v (.str z)) : v = .str z := by
  cases h
  rfl
theorem Td.intI {v : V} {i : Int} (h : Td K H v (.int i)) : v = .int i := by
  cases h
  rfl
theorem TdAll.nilI {xs : List V} (h : TdAll K H xs []) : xs = [] := by
  cases h
  rfl
theorem TdAll.consI {xs : List V} {d : PyData} {ds : List PyData} (h : TdAll K H xs (d :: ds)) : ∃ x r, xs = x :: r ∧ Td K H x d ∧ TdAll K H r ds := by
  cases h with
  | cons h a => exact ⟨_, _, rfl, h, a⟩
theorem TdAll.len : ∀ {xs : List V} {ds : List PyData}, TdAll K H xs ds → xs.length = ds.length
  | _, _, .nil => rfl
  | _, _, .cons _ t => congrArg (· + 1) (TdAll.len t)
theorem TdAll.at : ∀ {xs : List V} {ds : List PyData} {i : Nat} {d : PyData}, TdAll K H xs ds → ds[i]? = some d → ∃ x, xs[i]? = some x ∧ Td K H x d
  | _, _, i, _, .nil, h => by simp at h
  | _, _, 0, _, .cons h _, e => by
    cases Option.some.inj e
    exact ⟨_, rfl, h⟩
  | _, _, i + 1, _, .cons _ t, e => TdAll.at (i := i) t e
theorem TdAll.atV : ∀ {xs : List V} {ds : List PyData} {i : Nat} {x : V}, TdAll K H xs ds → xs[i]? = some x → ∃ d, ds[i]? = some d ∧ Td K H x d
  | _, _, i, _, .nil, h => by simp at h
  | _, _, 0, _, .cons h _, e => by
    cases Option.some.inj e
    exact ⟨_, rfl, h⟩
  | _, _, i + 1, _, .cons _ t, e => TdAll.atV (i := i) t e
theorem TdAll.snoc {x : V} {d : PyData} (h : Td K H x d) : ∀ {xs : List V} {ds : List PyData}, TdAll K H xs ds → TdAll K H (xs ++ [x]) (ds ++ [d])
  | _, _, .nil => .cons h .nil
  | _, _, .cons g t => .cons g (TdAll.snoc h t)
theorem tdAll_ints : ∀ gs : List Int, TdAll K H (gs.map V.int) (gs.map PyData.int)
  | [] => .nil
  | g :: r => .cons (.int g) (tdAll_ints r)
theorem tdAll_intsI : ∀ {xs : List V} {gs : List Int}, TdAll K H xs (gs.map PyData.int) → xs = gs.map V.int
  | _, [], .nil => rfl
  | _, g :: r, .cons h t => by rw [h.intI, tdAll_intsI t]; rfl
theorem tdAll_strs : ∀ gs : List Str, TdAll K H (gs.map V.str) (gs.map PyData.str)
  | [] => .nil
  | g :: r => .cons (.str g) (tdAll_strs r)
end
/-! gates -/
abbrev gsD (gs : List Int) : PyData := .tuple (gs.map PyData.int)
theorem Td.gs {K : PySem.W.Frag} {H : Hp} {v : V} {gs : List Int} (h : Td K H v (gsD gs)) : ∃ a, v = .ref a ∧ SqT K H a (gs.map V.int) := by
  obtain ⟨a, xs, rfl, h1, h2⟩ := h.tupI
  rw [tdAll_intsI h2] at h1
  exact ⟨a, rfl, h1⟩
theorem td_gs {K : PySem.W.Frag} {H : Hp} {a : Addr} {gs : List Int} (h : SqT K H a (gs.map V.int)) : Td K H (.ref a) (gsD gs) := .tup h (tdAll_ints gs)
structure GsOk (gs : List Int) : Prop where
  asc : gs.Pairwise (· < ·)
  rng : ∀ g ∈ gs, 1 ≤ g ∧ g ≤ 4
/-- those of 1 to 4 -/
def asc4 (P : Int → Bool) : List Int := ([1, 2, 3, 4] : List Int).filter P
theorem asc4_ok (P : Int → Bool) : GsOk (asc4 P) := by
  refine ⟨List.Pairwise.filter _ (by decide), fun g hg => ?_⟩
  have := (List.mem_filter.mp hg).1
  simp only [List.mem_cons, List.mem_nil_iff, or_false] at this
  omega
theorem asc_ext : ∀ {xs ys : List Int}, xs.Pairwise (· < ·) → ys.Pairwise (· < ·) → (∀ x, x ∈ xs ↔ x ∈ ys) → xs = ys
  | [], [], _, _, _ => rfl
  | [], y :: ys, _, _, h => by
    have := (h y).mpr List.mem_cons_self
    cases this
  | x :: xs, [], _, _, h => by
    have := (h x).mp List.mem_cons_self
    cases this
  | x :: xs, y :: ys, h1, h2, h => by
    rw [List.pairwise_cons] at h1 h2
    have e : x = y := by
      rcases List.mem_cons.mp ((h x).mp List.mem_cons_self) with e | hx
      · exact e
      · rcases List.mem_cons.mp ((h y).mpr List.mem_cons_self) with e | hy
        · exact e.symm
        · have := h2.1 x hx
          have := h1.1 y hy
          omega
    subst e
    rw [asc_ext h1.2 h2.2 fun z => ⟨fun hz => by
      rcases List.mem_cons.mp ((h z).mp (List.mem_cons_of_mem _ hz)) with e | hz'
      · have := h1.1 z hz
        omega
      · exact hz', fun hz => by
      rcases List.mem_cons.mp ((h z).mpr (List.mem_cons_of_mem _ hz)) with e | hz'
      · have := h2.1 z hz
        omega
      · exact hz'⟩]
theorem mem_asc4 {P : Int → Bool} {g : Int} : g ∈ asc4 P ↔ (1 ≤ g ∧ g ≤ 4) ∧ P g = true := by
  unfold asc4
  rw [List.mem_filter]
  simp only [List.mem_cons, List.mem_nil_iff, or_false]
  refine ⟨fun h => ⟨by omega, h.2⟩, fun h => ⟨by omega, h.2⟩⟩
theorem GsOk.eq_asc {gs : List Int} (h : GsOk gs) : gs = asc4 fun g => decide (g ∈ gs) := asc_ext h.asc (asc4_ok _).asc fun g => by
  rw [mem_asc4, decide_eq_true_eq]
  exact ⟨fun hg => ⟨h.rng g hg, hg⟩, fun h => h.2⟩
theorem GsOk.len {gs : List Int} (h : GsOk gs) : gs.length ≤ 4 := by
  rw [h.eq_asc]
  exact List.length_filter_le _ ([1, 2, 3, 4] : List Int)
theorem GsOk.filter {gs : List Int} (h : GsOk gs) (P : Int → Bool) : GsOk (gs.filter P) := ⟨h.asc.filter _, fun g hg => h.rng g (List.mem_filter.mp hg).1⟩
/-! what is known of lines: names, gates -/
abbrev Kn := List (Str × List Int)
def glk : Kn → Str → Option (List Int)
  | [], _ => none
  | (b, gs) :: r, a => if a = b then some gs else glk r a
theorem glk_app {kn : Kn} {b : Str} {gs : List Int} : ∀ {a : Str}, glk (kn ++ [(b, gs)]) a = match glk kn a with | some g => some g | none => if a = b then some gs else none := by
  intro a
  induction kn with
  | nil => rfl
  | cons p r ih =>
    obtain ⟨c, g⟩ := p
    show (if a = c then some g else glk (r ++ [(b, gs)]) a) = match (if a = c then some g else glk r a) with | some g => some g | none => if a = b then some gs else none
    by_cases e : a = c
    · rw [if_pos e, if_pos e]
    · rw [if_neg e, if_neg e]
      exact ih
theorem glk_some {kn : Kn} {a : Str} {gs : List Int} (h : glk kn a = some gs) : (a, gs) ∈ kn := by
  induction kn with
  | nil => cases h
  | cons p r ih =>
    obtain ⟨c, g⟩ := p
    have h : (if a = c then some g else glk r a) = some gs := h
    by_cases e : a = c
    · rw [if_pos e] at h
      cases h
      rw [e]
      exact List.mem_cons_self
    · rw [if_neg e] at h
      exact List.mem_cons_of_mem _ (ih h)
theorem glk_none {kn : Kn} {a : Str} : glk kn a = none ↔ a ∉ kn.map (·.1) := by
  induction kn with
  | nil => simp [glk]
  | cons p r ih =>
    obtain ⟨c, g⟩ := p
    show (if a = c then some g else glk r a) = none ↔ _
    by_cases e : a = c
    · rw [if_pos e]
      simp [e]
    · rw [if_neg e, ih]
      simp [e]
theorem glk_mem {kn : Kn} (nd : (kn.map (·.1)).Nodup) {a : Str} {gs : List Int} (h : (a, gs) ∈ kn) : glk kn a = some gs := by
  induction kn with
  | nil => cases h
  | cons p r ih =>
    obtain ⟨c, g⟩ := p
    rw [List.map_cons, List.nodup_cons] at nd
    show (if a = c then some g else glk r a) = some gs
    rcases List.mem_cons.mp h with e | h
    · cases e
      rw [if_pos rfl]
    · have : a ≠ c := fun e => nd.1 (by rw [← e]; exact List.mem_map.mpr ⟨_, h, rfl⟩)
      rw [if_neg this]
      exact ih nd.2 h
inductive KnD (K : PySem.W.Frag) (H : Hp) : List (Key × V) → Kn → Prop
  | nil : KnD K H [] []
  | cons {a : Str} {gs : List Int} {v : V} {kvs : List (Key × V)} {kn : Kn} : Td K H v (gsD gs) → KnD K H kvs kn → KnD K H ((.inr a, v) :: kvs) ((a, gs) :: kn)
theorem KnD.mv {K : PySem.W.Frag} {H H' : Hp} (s : TK H H') {kvs : List (Key × V)} {kn : Kn} (h : KnD K H kvs kn) : KnD K H' kvs kn := by
  induction h with
  | nil => exact .nil
  | cons h _ ih => exact .cons (h.mv s) ih
theorem KnD.keys {K : PySem.W.Frag} {H : Hp} : ∀ {kvs : List (Key × V)} {kn : Kn}, KnD K H kvs kn → kvs.map (·.1) = (kn.map (·.1)).map Sum.inr
  | _, _, .nil => rfl
  | _, _, .cons _ t => by rw [List.map_cons, List.map_cons, List.map_cons, KnD.keys t]
theorem KnD.len {K : PySem.W.Frag} {H : Hp} : ∀ {kvs : List (Key × V)} {kn : Kn}, KnD K H kvs kn → kvs.length = kn.length
  | _, _, .nil => rfl
  | _, _, .cons _ t => congrArg (· + 1) (KnD.len t)
theorem KnD.snoc {K : PySem.W.Frag} {H : Hp} {a : Str} {gs : List Int} {v : V} (h : Td K H v (gsD gs)) : ∀ {kvs : List (Key × V)} {kn : Kn}, KnD K H kvs kn → KnD K H (kvs ++ [(.inr a, v)]) (kn ++ [(a, gs)])
  | _, _, .nil => .cons h .nil
  | _, _, .cons g t => .cons g (KnD.snoc h t)
theorem KnD.get {K : PySem.W.Frag} {H : Hp} {a : Str} {gs : List Int} : ∀ {kvs : List (Key × V)} {kn : Kn}, KnD K H kvs kn → glk kn a = some gs → ∃ v, valV kvs (.inr a) = some v ∧ Td K H v (gsD gs)
  | _, _, .nil, h => by cases h
  | _, _, .cons (a := b) (gs := g) (kvs := kvs) (kn := kn) h t, e => by
    have e : (if a = b then some g else glk kn a) = some gs := e
    by_cases n : a = b
    · rw [if_pos n] at e
      cases e
      exact ⟨_, valV_pos (by rw [n]), h⟩
    · rw [if_neg n] at e
      obtain ⟨v, h1, h2⟩ := KnD.get t e
      exact ⟨v, by rw [valV_neg (k_ne fun z => n z.symm)]; exact h1, h2⟩
theorem KnD.has {K : PySem.W.Frag} {H : Hp} {kvs : List (Key × V)} {kn : Kn} (h : KnD K H kvs kn) (a : Str) : (valV kvs (.inr a)).isSome = decide (a ∈ kn.map (·.1)) := has_key h.keys a
theorem KnD.no {K : PySem.W.Frag} {H : Hp} {kvs : List (Key × V)} {kn : Kn} (h : KnD K H kvs kn) {a : Str} (e : glk kn a = none) : valV kvs (.inr a) = none := by
  have := h.has a
  rw [decide_eq_false (glk_none.mp e)] at this
  cases q : valV kvs (.inr a) with
  | none => rfl
  | some v =>
    rw [q] at this
    cases this
/-! forms, lines -/
abbrev Fac := Int × Int
inductive Frm where
  | one (gs : List Int)
  | road (k : Str) (g h : Int)
  | prod (a b : Str)
  | close (g : Int) (a : Str)
  | turn (g h : Int) (a : Str)
  | add (fs : List (Fac × Str))
structure Ln where
  nm : Str
  fm : Frm
def Frm.word : Frm → Str
  | .one _ => "one"
  | .road _ _ _ => "road"
  | .prod _ _ => "*"
  | .close _ _ => "close"
  | .turn _ _ _ => "turn"
  | .add _ => "add"
def facD (f : Fac) : PyData := .tuple [.int f.1, .int f.2]
def Frm.partsL : Frm → List PyData
  | .one gs => gs.map PyData.int
  | .road k g h => [.str k, .int g, .int h]
  | .prod a b => [.str a, .str b]
  | .close g a => [.int g, .str a]
  | .turn g h a => [.int g, .int h, .str a]
  | .add fs => fs.map fun f => .tuple [facD f.1, .str f.2]
def Ln.data (l : Ln) : PyData := .tuple [.str l.nm, .str l.fm.word, .tuple l.fm.partsL]
def swp (g h x : Int) : Int := if x = g then h else if x = h then g else x
def Frm.gates (kn : Kn) : Frm → List Int
  | .one gs => gs
  | .road _ g h => asc4 fun x => decide (x ∈ [g, h])
  | .prod a b => asc4 fun x => decide (x ∈ (glk kn a).getD [] ++ (glk kn b).getD [])
  | .close g a => ((glk kn a).getD []).filter fun x => !decide (x = g)
  | .turn g h a => asc4 fun x => decide (x ∈ ((glk kn a).getD []).map (swp g h))
  | .add fs => (glk kn ((fs.map (·.2)).headD Str.empty)).getD []
def knOf : Kn → List Ln → Kn
  | kn, [] => kn
  | kn, l :: r => knOf (kn ++ [(l.nm, l.fm.gates kn)]) r
/-- the factors that are drawn -/
def allFacs : List Fac := ([1, -1, 2, -2, 3, 0, 7, -5] : List Int).flatMap fun t => ([1, 1, 1, 1, 1, 2, 3, 4] : List Int).map fun b => (t / (Nat.gcd t.natAbs b.natAbs : Int), b / (Nat.gcd t.natAbs b.natAbs : Int))
/-- a factor in least terms -/
structure FacOk (f : Fac) : Prop where
  low : 1 ≤ f.2
  gcd : Nat.gcd f.1.natAbs f.2.natAbs = 1
  mem : f ∈ allFacs
  sml : f.1.natAbs ≤ 1000 ∧ f.2 ≤ 1000
end OG
set_option Elab.async false
set_option linter.all false
set_option maxRecDepth 100000
set_option maxHeartbeats 4000000
namespace OGX
open PySem PySem.Spec PyProof.Rows L2
section
variable {prog : Program} {w : World} {A : Around} {E : Value → Shared → Prop} {s : Shared} {K : PySem.W.Frag} {x y C f : Addr} {ox oy : Obj} {od od' : Option Obj}
theorem ne_checked {Q : Unit → Shared → Prop} (KX : K.In s.heap) (J : PySem.W.InstAt s.heap x ox C od) (hob : PySem.W.subIn K (.ref C) (.type "object") = some true) (q : Q () s) :
    wpAny (model prog w) A (checkBuiltinCall "object.__ne__" ⟨[.ref x, .ref y], []⟩) Q E s := by
  simp only [checkBuiltinCall, F.cmpKind_ne, F.cmpSplit_ne]
  refine wpAny_bind ?_
  unfold isInstance
  refine wpAny_bind (J.type.here ?_)
  refine (PySem.W.looks_subIn KX hob).here ?_
  have ha := F.cmpArgs_ne (.ref x) (.ref y)
  rw [if_neg (show ¬ (!true) = true from fun z => by cases z)]
  unfold argsOk at ha
  split at ha
  · rename_i sig e
    rw [e]
    show wpAny _ _ (Bind.checkArgs "object.__ne__" sig ⟨[.ref x, .ref y], []⟩) Q E s
    rw [show Bind.checkArgs "object.__ne__" sig ⟨[.ref x, .ref y], []⟩ = pure () from ha]
    exact wpAny_pure q
  · rename_i e
    split
    · rename_i sig e2
      first
        | exact absurd e2 (by intro z; simp_all)
        | (rw [e2] at e; cases e)
    · exact wpAny_pure q
theorem ne_builtin {Q : Value → Shared → Prop} (KX : K.In s.heap) (J : PySem.W.InstAt s.heap x ox C od) (hob : PySem.W.subIn K (.ref C) (.type "object") = some true) (heq : PySem.W.findIn K (.ref C) "__eq__" = some (some (.ref f))) (hf : PySem.W.isFn K (.ref f) = true) (hu : A.units + 1 < cLine)
    (h : wpAny (model prog w) A.in1 (call (.ref f) [.ref x, .ref y]) (fun v s' => ∃ b, v = .bool b ∧ Q (.bool (!b)) s') E s) :
    wpAny (model prog w) A (call (.builtin "object.__ne__") [.ref x, .ref y]) Q E s := by
  refine wpAny_call (codeAny_call_builtin F.cmp_object.ne.plain F.cmpEntry_ne (ne_checked KX J hob ?_))
  unfold Builtin.«object.__ne__»
  repeat (first
    | with_reducible refine wpAny_cRoomFor hu ?_
    | (refine wpAny_bind (m := callSpecialIfBound? (.ref x) (Str.ofString "__eq__") [.ref y]) (PySem.W.ifBound_K KX J heq hf (wpAny_mono h (fun v s' z => ?_) fun _ _ e => e)))
    | wp_step)
  obtain ⟨b, rfl, q⟩ := z
  dsimp only
  exact wpAny_bind (wpAny_truthy_bool (wpAny_pure q))
theorem ne_rich {Q : Value → Shared → Prop} (KX : K.In s.heap) (J : PySem.W.InstAt s.heap x ox C od) (J2 : PySem.W.InstAt s.heap y oy C od') (hob : PySem.W.subIn K (.ref C) (.type "object") = some true) (hne : PySem.W.findIn K (.ref C) "__ne__" = some (some (.builtin "object.__ne__")))
    (heq : PySem.W.findIn K (.ref C) "__eq__" = some (some (.ref f))) (hf : PySem.W.isFn K (.ref f) = true) (hu : A.units + 2 < cLine)
    (h : wpAny (model prog w) A.in1 (call (.ref f) [.ref x, .ref y]) (fun v s' => ∃ b, v = .bool b ∧ Q (.bool (!b)) s') E s) :
    wpAny (model prog w) A (richCompare .NotEq (.ref x) (.ref y)) Q E s := by
  have fin : wpAny (model prog w) A (tryCompare (.ref x) (Str.ofString "__ne__") (.ref y)) (fun r s' => ∃ v, r = some v ∧ Q v s') E s := by
    unfold tryCompare
    refine wpAny_bind ?_
    simp only [callSpecialIfBound?, bindSpecialIfBound?]
    refine wpAny_holding (wpAny_bind (wpAny_bind (wpAny_bind (J.type.here ((PySem.W.looks_findIn KX hne).here ?_)))))
    simp only [F.cmp_object.ne.bind]
    have fin : wpAny (model prog w) A (call (.builtin "object.__ne__") ([.ref x] ++ [.ref y])) (fun v s' => ∃ b, v = .bool b ∧ Q (.bool b) s') E s :=
      ne_builtin KX J hob heq hf (by omega) (wpAny_mono h (fun v s' z => by
        obtain ⟨b, rfl, q⟩ := z
        exact ⟨b, rfl, !b, rfl, q⟩) fun _ _ z => z)
    have go : wpAny (model prog w) A (match (some (Value.builtin "object.__ne__", [Value.ref x]) : Option (Value × List Value)) with
        | some (g, first) => do
          let v ← call g (first ++ [Value.ref y])
          pure (some v)
        | _ => pure none) (fun a s' => wpAny (model prog w) A (match a with
            | some Value.notImplemented => pure none
            | none => pure none
            | some v => pure (some v)) (fun r s' => ∃ v, r = some v ∧ Q v s') E s') E s := by
      dsimp only
      refine wpAny_bind (wpAny_mono fin (fun v s' z => ?_) fun _ _ z => z)
      obtain ⟨b, rfl, q⟩ := z
      exact wpAny_pure (wpAny_pure ⟨_, rfl, q⟩)
    refine wpAny_bind (wpAny_askSetting (wpAny_ite ?_))
    split
    · exact wpAny_bind (wpAny_pure (wpAny_pure go))
    · exact wpAny_tryCatch (wpAny_bind (wpAny_pure (wpAny_pure go)))
  unfold richCompare
  simp only [oneThing_ref]
  refine wpAny_holding (wpAny_bind (wpAny_cRoomFor (by omega) ?_))
  rw [cmpInfo_NotEq]
  dsimp only
  refine wpAny_bind (J.type.here (wpAny_bind (J2.type.here ?_)))
  rw [show (Value.ref C != Value.ref C) = false from by simp]
  simp only [Bool.false_eq_true, if_false]
  refine wpAny_bind (wpAny_pure ?_)
  simp only [Bool.false_eq_true, if_false]
  refine wpAny_bind (wpAny_mono fin (fun r s' z => ?_) fun _ _ z => z)
  obtain ⟨v, rfl, q⟩ := z
  exact wpAny_pure q
end
section
variable {X : Cx} {CX : CXT} {k : Nat} {f C : Addr} {fd : FuncData} {ps : List Str} {sp : Sp} {E : XK}
/-- o != another one, by the own __eq__ -/
def rNeO (C : Addr) (sp : Sp) (E : XK) : R2 := fun x y H Q => ∃ (a dx : Addr) (fs : List (Str × V)) (b dy : Addr) (gs : List (Str × V)), x = .ref a ∧ y = .ref b ∧ H a = some (.ins C dx fs) ∧ H b = some (.ins C dy gs) ∧
  sp [.ref a, .ref b] H (fun v H' => ∃ r, v = .bl r ∧ Q (.bl (!r)) H') E
theorem op_neOwn (F : FnOk X.prog X.w X.K X.mg X.base CX k f fd ps sp) (hr : Room (k + 1) X.A) (hs : PySem.W.findIn X.K (.ref C) "__eq__" = some (some (.ref f))) (hf : PySem.W.isFn X.K (.ref f) = true) (hn : PySem.W.findIn X.K (.ref C) "__ne__" = some (some (.builtin "object.__ne__"))) (ho : PySem.W.subIn X.K (.ref C) (.type "object") = some true)
    (hb : Binds X.K fd ps []) (hx : Passes CX X E) : OpR X (compareOp .NotEq) (rNeO C sp E) := by
  intro pins s σ H x y v u Q I rx ry h
  obtain ⟨a, dx, fs, b, dy, gs, rfl, rfl, ha, hb0, q⟩ := h
  cases rx
  cases ry
  obtain ⟨mA, J, _⟩ := ins_get I.hok ha
  obtain ⟨od, J, _⟩ := J.look
  obtain ⟨mB, J', _⟩ := ins_get I.hok hb0
  obtain ⟨od', J', _⟩ := J'.look
  refine ne_rich I.kIn J J' ho hn hs hf (by have := hr.units; omega) (wpAny_mono (run_own (A := X.A.in1) F hr.in1 rfl hb hx I (.cons (show L2.RelV (.ref a) (Value.ref a) from rfl) (.cons (show L2.RelV (.ref b) (Value.ref b) from rfl) .nil)) q) (fun v s' z => ?_) fun _ _ z => z)
  obtain ⟨y, H', I', ry, r, rfl, q'⟩ := z
  cases ry
  exact ⟨r, rfl, .bl (!r), H', I', rfl, q'⟩
end
end OGX
set_option Elab.async false
set_option linter.all false
set_option maxRecDepth 100000
set_option maxHeartbeats 4000000
namespace OGX
open PySem PySem.Spec PyProof.Rows L2
/-- a promise where no repr is under way -/
structure FnG (P : Program) (w : World) (K : PySem.W.Frag) (mg : Str → Option Value) (base : Heap) (k : Nat) (f : Addr) (fd : FuncData) (ps : List Str) (sp : Sp) : Prop where
  len : ∀ vs H Q E, sp vs H Q E → vs.length = ps.length
  run : ∀ (A : Around) (outer : List Env) (s : Shared) (H : Hp) (args : Args) (us : List Value) (vs : List V) (Q : VK) (E : XK), A.guards = some [] → Room k A → Env0 P w K mg base A outer s H → BindsTo s fd args (ps.zip us) → Vals vs us → sp vs H Q E →
    codeAny (model P w) A (.call (.ref f) args) (CR CX0 outer P w H s Q E) s
theorem FnG.mono {P : Program} {w : World} {K : PySem.W.Frag} {mg : Str → Option Value} {base : Heap} {j k : Nat} {f : Addr} {fd : FuncData} {ps : List Str} {sp : Sp} (F : FnG P w K mg base j f fd ps sp) (h : j ≤ k) : FnG P w K mg base k f fd ps sp :=
  ⟨F.len, fun A outer s H args us vs Q E hg hr => F.run A outer s H args us vs Q E hg (hr.mono h)⟩
section
variable {P : Program} {w : World} {K : PySem.W.Frag} {mg : Str → Option Value} {base : Heap}
theorem okG {x qual : Str} {st : Stmt} {f : Addr} {fd : FuncData} {N ps : List Str} {k : Nat} {sp : Sp} (F : Fun K x qual st f fd) (S : FnScope N ps (defScope st)) (len : ∀ vs H Q E, sp vs H Q E → vs.length = ps.length)
    (body : ∀ (cdv : Value) (A : Around) (outer : List Env) (s : Shared) (H : Hp) (vs : List V) (Q : VK) (E : XK), A.guards = some [] → Room k (A.deeper (envOfC qual (defScope st) s.heap.objs.size f cdv)) → sp vs H Q E →
      ∃ t, PSs (cxOf CX0 P w K mg base N qual (defScope st) f cdv A outer s H E).nox (defBody st) t ∧ t { nx := fun _ H' => Q .non H', rt := Q } (start N vs) H) : FnG P w K mg base (k + 1) f fd ps sp := by
  obtain ⟨oc, od, kV, doc, pm, an, cdv, ct, osl, rfl, lk, hcd⟩ := F.ex
  refine ⟨len, fun A outer s H args us vs Q E hg hr e0 hb r q => ?_⟩
  have toNow : ∀ b o, base.get? b = some o → s.heap.get? b = some o := fun b o e => (e0.bs b o e).1
  have KX := e0.mod.kin.keeps toNow
  have lim := e0.mod.nolimit.keeps toNow
  have kinds : ∀ y ∈ ps.zip us, (defScope st).names.lookup y.1 = some .local ∨ ((defScope st).names.lookup y.1 = some .cell ∧ ((cellsFrom (s.heap.objs.size + 1) (defScope st).names []).lookup y.1).isSome = true) := by
    rintro ⟨n, v⟩ hy
    refine (S.par n (List.of_mem_zip hy).1).imp id fun c => ⟨c, PySem.W.cellsFrom_some _ _ _ (.inl c)⟩
  refine codeAny_call_function hr.depth (KX _ _ lk) rfl S.co S.gen rfl (PySem.W.codeRec_of KX hcd) (hb _ _ _ _ (wpAny_newFunctionEnv_cells S.kind kinds fun env he s1 x => ?_))
  cases he
  refine ⟨lim.keeps x.toInCall.keep, codeAny_func ?_⟩
  obtain ⟨t, ht, hq⟩ := body cdv A outer s H vs Q E hg (hr.deeper _) q
  refine wpAny_mono (ht.nox.run [] s1 (start N vs) H _ (inv_start S hr.hd e0 (len _ _ _ _ q) r x) hq) (fun fl s' z => ?_) fun _ _ z => z
  rcases fl with _ | _ | _ | u
  · obtain ⟨_, H', J, q'⟩ := z
    exact ⟨V.non, H', J.os, J.bare, J.base, J.hok, rfl, q'⟩
  · exact z.elim fun _ z => z.elim fun _ z => z.2.elim
  · exact z.elim fun _ z => z.elim fun _ z => z.2.elim
  · obtain ⟨v, _, H', J, rv, q'⟩ := z
    exact ⟨v, H', J.os, J.bare, J.base, J.hok, rv, q'⟩
end
section
variable {X : Cx} {k : Nat} {f : Addr} {fd : FuncData} {ps : List Str} {sp : Sp} {x : Str} {p pos : Pos} {e : Expr} {es : List Expr} {t : TA}
theorem pe_callG (F : FnG X.prog X.w X.K X.mg X.base k f fd ps sp) (hu : X.A.guards = some []) (hr : Room k X.A) (hg : Gl X x) (hm : X.mg x = some (.ref f)) (hk : PySem.W.keepIn X.K (.ref f) = true) (hb : Binds X.K fd ps [])
    (ha : PA X (e :: es) t) (hdb : (x == ("__debug__" : Str)) = false := by decide) (he : starEach (e :: es) X.env = (false, eval e X.env) :: starEach es X.env := by rfl) (hpl : (backTo pos (starEach es X.env)).any (·.1) = false := by rfl) :
    PE X (.Call (.Name x p) (e :: es) [] pos) (tCall sp [] E0 t) := by
  refine ⟨fun pins s σ H Q I h => wpAny_Call_Name_kw (ld_glob I hg hm (PySem.W.callWith_K (h₀ := X.base) I.ok.mod.kin hk (thn (ha.run pos pins s σ H _ I h) fun us s1 ⟨vs, H1, I1, r, q⟩ => ⟨I1.kIn, ?_⟩) he hpl) hdb)⟩
  have q : sp vs H1 Q E0 := by
    have q : sp (vs ++ []) H1 Q E0 := q
    rw [List.append_nil] at q
    exact q
  have hl : us.length = ps.length := by rw [← r.length]; exact F.len _ _ _ _ q
  have b := hb s1 us I1.kIn (by rw [List.append_nil]; exact hl)
  rw [List.append_nil] at b
  refine wpAny_call (codeAny_mono (F.run X.A X.stack s1 H1 ⟨us, []⟩ us vs Q E0 hu hr I1.env0 b r q) fun z s' hq => ?_)
  rcases z with e | fl
  · exact hq.elim
  · rcases fl with _ | _ | _ | u
    all_goals first | exact I1.after hq | exact hq.elim
end
/-- the law's call at the heap behind the top: the script's list alone is tracked -/
theorem law_callG {P : Program} {w : World} {K : PySem.W.Frag} {mg mb : Str → Option Value} {k : Nat} {fa a : Addr} {fd : FuncData} {x : Str} {sp : Sp} {s₁ : Shared} {vs : List Value} {ns : List Int}
    (KX : K.In s₁.heap) (G : s₁.heap.Ns mainGlobals mg) (B : s₁.heap.Ns builtinsNs mb) (bs : ∀ x : Str, x ≠ "__name__" → mb x = bootBuiltins x) (lim : s₁.heap.NoLimit) (gens : s₁.gens = #[])
    (ha : s₁.heap.get? a = some { cls := .type "list", data := .seq vs.toArray }) (hi : IntsAre vs ns) (hl : ns.length ≤ sizeLine) (hr : Room k callerA)
    (F : ∀ base : Heap, K.In base → base.Ns mainGlobals mg → FnG P w K mg base k fa fd [x] sp) (hb : ∀ (s : Shared) (u : Value), BindsTo s fd ⟨[u], []⟩ [(x, u)])
    (hsp : ∀ H : Hp, SqL K H a (ns.map V.int) → sp [.ref a] H (fun v _ => v = .bl true) E0) :
    codeAny (model P w) callerA (.call (.ref fa) ⟨[.ref a], []⟩) (fun r s' => r = .ok (.ret (.bool true)) ∧ OldK s₁.heap s'.heap ∧ s'.os = s₁.os ∧ AllBare s'.gens) s₁ := by
  have rv := vals_ints hi
  have go : ∀ H : Hp, (∀ b u, H b = some u → b = a ∧ K.lookup a = none ∧ u = .frz { cls := .type "list", data := .seq vs.toArray } (.lst (ns.map V.int))) → SqL K H a (ns.map V.int) →
      codeAny (model P w) callerA (.call (.ref fa) ⟨[.ref a], []⟩) (fun r s' => r = .ok (.ret (.bool true)) ∧ OldK s₁.heap s'.heap ∧ s'.os = s₁.os ∧ AllBare s'.gens) s₁ := by
    intro H hH hS
    have out : ∀ {b : Addr} {o : Obj}, s₁.heap.get? b = some o → (b = a → False) → (hidT s₁.heap H).get? b = some o := fun {b o} e n => hidT_get e (by
      cases q : H b with
      | none => rfl
      | some u => exact (n (hH b u q).1).elim)
    have ns1 : ∀ {b : Addr} {m : Str → Option Value}, s₁.heap.Ns b m → (hidT s₁.heap H).Ns b m := by
      rintro b m ⟨o, es, ep, e, d, r⟩
      refine ⟨o, es, ep, out e (fun z => ?_), d, r⟩
      rw [z, ha] at e
      cases e
      cases d
    have K1 : K.In (hidT s₁.heap H) := fun b o e => hidT_get (KX b o e) (by
      cases q : H b with
      | none => rfl
      | some u =>
        obtain ⟨z, hk, _⟩ := hH b u q
        rw [z, hk] at e
        cases e)
    obtain ⟨mc, l1, l2⟩ := lim
    have e0 : Env0 P w K mg (hidT s₁.heap H) callerA [] s₁ H := {
      frames := rfl
      mod := ⟨K1, ns1 G, ⟨mb, ns1 B, bs⟩, ⟨mc, ns1 l1, l2⟩⟩
      bs := fun b o e => of_hidT e
      bsz := Nat.le_of_eq (hidT_size _ _)
      funs := trivial
      frf := fun b z => by cases z
      hok := fun b u q => by
        obtain ⟨z, _, rfl⟩ := hH b u q
        rw [z]
        exact ⟨ha, by rw [List.length_map]; exact hl, vs, _, rv, ha⟩
      bare := .of_eq gens }
    refine codeAny_mono ((F _ K1 (ns1 G)).run callerA [] s₁ H ⟨[.ref a], []⟩ [.ref a] [.ref a] _ _ rfl hr e0 (hb s₁ (.ref a)) (.cons rfl .nil) (hsp H hS)) fun r s' z => ?_
    rcases r with e | fl
    · exact z.elim
    rcases fl with _ | _ | _ | u
    case next => exact z.elim
    case brk => exact z.elim
    case cont => exact z.elim
    obtain ⟨v, H', os, bare, un, ok', rv', q⟩ := z
    cases (show v = .bl true from q)
    cases (show u = Value.bool true from rv')
    refine ⟨rfl, OldK.of_keep fun b o e => ?_, os, bare⟩
    cases q : H b with
    | none => exact un.keep b o e q (fun z => by cases z) (fun z => by cases z)
    | some t =>
      obtain ⟨rfl, _, rfl⟩ := hH b t q
      obtain ⟨g, _⟩ := ok' b _ (un.frzs b _ _ q)
      rw [ha] at e
      cases e
      exact g
  cases hk : K.lookup a with
  | some o =>
    have e := KX a o hk
    rw [ha] at e
    cases e
    exact go (fun _ => none) (fun b u z => by cases z) (.inr ⟨_, vs.toArray, _, hk, rfl, rfl, rfl, by rw [List.size_toArray, hi.length]; exact hl, by simpa using rv⟩)
  | none =>
    refine go (fun b => if b = a then some (.frz { cls := .type "list", data := .seq vs.toArray } (.lst (ns.map V.int))) else none) (fun b u z => ?_) (.inl (.inr ⟨{ cls := .type "list", data := .seq vs.toArray }, if_pos rfl⟩))
    by_cases h : b = a
    · exact ⟨h, hk, (Option.some.inj ((if_pos h).symm.trans z)).symm⟩
    · cases (if_neg h).symm.trans z
/-- the end -/
theorem walkG {l : PySem.W.OpenLaw} {n k : Nat} {q : Program} {loose : List Str} {XP : (Str → Option Value) → Heap → Prop} {YP : World → Heap → Prop} {d : DefRec} {K : Params → PySem.W.Frag} {x : Str}
    (h1 : l.most = some n) (h2 : n ≤ sizeLine) (h3 : d.params.defaults = []) (h4 : Room k callerA) (h5 : ∀ (w : World) (h : Heap), YP w h → (K w.params).In h)
    (h6 : ∀ (w : World) (mg : Str → Option Value) (fa : Addr) (h : Heap), YP w h → XP mg h → (K w.params).In h → h.Ns mainGlobals mg → mg d.name = some (.ref fa) → ∃ (fd : FuncData) (sp : Sp), (∀ (s : Shared) (u : Value), BindsTo s fd ⟨[u], []⟩ [(x, u)]) ∧
      (∀ (H : Hp) (a : Addr) (ns : List Int), ns.length ≤ n → (∀ z ∈ ns, Builtin.Int.intBits z ≤ 1048576) → SqL (K w.params) H a (ns.map V.int) → sp [.ref a] H (fun v _ => v = .bl true) E0) ∧
      ∀ base : Heap, (K w.params).In base → base.Ns mainGlobals mg → FnG l.prog w (K w.params) mg base k fa fd [x] sp) :
    PySem.W.WalkO q loose XP YP l.row.toRowW d [] (fun f vs => PySem.call f vs) := by
  refine Att.attach_callB h1 h3 fun w a0 a1 mg mb fa o pm cd doc a vs ns G Y b1 b2 b3 b4 b5 b6 b7 b8 b9 => ?_
  have X := h5 w _ Y
  obtain ⟨fd, sp, c4, c5, c6⟩ := h6 w mg fa _ Y G.X X G.T.g b4
  exact law_callG X G.T.g G.T.b G.T.builtins G.T.nolimit b9 b5 b6 (Nat.le_trans b7 h2) h4 c6 c4 fun H hS => c5 H a ns b7 b8 hS
end OGX
set_option Elab.async false
set_option linter.all false
set_option maxRecDepth 100000
set_option maxHeartbeats 4000000
namespace OG
open PySem PySem.Spec PyProof.Rows L2
section
variable {X : Cx} (K : PySem.W.Frag)
theorem pe_fldK {e : Expr} {f : Str} {pos : Pos} {ta : TE} (he : PE X e ta) (hb : attributeBase e f X.env (eval e X.env) = eval e X.env) (hK : X.K = K := by rfl) : PE X (.Attribute e f pos) (tFld K ta f) := hK ▸ pe_fld he hb
theorem pa_starK {e : Expr} {es : List Expr} {te : TE} {t : TA} {p : Pos} (he : PE X e te) (hr : PA X es t) (hK : X.K = K := by rfl) (hs : starEach (.Starred e p :: es) X.env = (true, eval e X.env) :: starEach es X.env := by rfl) : PA X (.Starred e p :: es) (StX.tStar K te t) := hK ▸ StX.pa_star he hr hs
theorem op_catAK (hK : X.K = K := by rfl) : OpR X (binaryOp .Add) (rCatA K) := hK ▸ op_catA
end
end OG
set_option Elab.async false
set_option linter.all false
set_option maxRecDepth 100000
set_option maxHeartbeats 4000000
namespace OG
open PySem PySem.Spec PyProof.Rows L2
/-! what is not reached -/
theorem pe_dead {X : Cx} {e : Expr} : PE X e (fun _ _ _ => False) := ⟨fun _ _ _ _ _ _ h => h.elim⟩
theorem pt_dead {X : Cx} {e : Expr} : PT X e (fun _ _ _ => False) := ⟨fun _ _ _ _ _ _ h => h.elim⟩
theorem pw_dead {X : Cx} {e : Expr} : PW X e (fun _ _ _ => False) := ⟨fun _ _ _ _ _ _ _ h => h.elim⟩
theorem pss_dead {X : Cx} {b : List Stmt} : PSs X b (fun _ _ _ => False) := ⟨fun _ _ _ _ _ _ h => h.elim⟩
theorem ps_dead {X : Cx} {b : Stmt} : PS X b (fun _ _ _ => False) := ⟨fun _ _ _ _ _ _ h => h.elim⟩
end OG
set_option Elab.async false
set_option linter.all false
set_option maxRecDepth 100000
set_option maxHeartbeats 8000000
namespace OG
open PySem PySem.Spec PyProof.Rows L2
/-- a slot's number -/
def vN : Option (Option V) → Nat
  | some (some (.int y)) => y.toNat
  | _ => 0
def redF (t b : Int) : Fac := (t / (Nat.gcd t.natAbs b.natAbs : Int), b / (Nat.gcd t.natAbs b.natAbs : Int))
theorem redF_ok {t b : Int} (h1 : 1 ≤ b) (h2 : b ≤ 1000) (h3 : t.natAbs ≤ 1000) (m : redF t b ∈ allFacs) : FacOk (redF t b) := by
  obtain ⟨g, hg⟩ : ∃ g, g = Nat.gcd t.natAbs b.natAbs := ⟨_, rfl⟩
  have gp : 0 < g := by
    rw [hg]
    exact Nat.gcd_pos_of_pos_right _ (by omega)
  obtain ⟨b', rfl⟩ : ∃ b' : Nat, b = b' := ⟨b.toNat, by omega⟩
  have d1 : g ∣ t.natAbs := by rw [hg]; exact Nat.gcd_dvd_left _ _
  have d2 : g ∣ b' := by rw [hg]; exact Nat.gcd_dvd_right _ _
  obtain ⟨u, hu⟩ := d1
  obtain ⟨v, hv⟩ := d2
  have ev : ((b' : Int) / (g : Int)) = (v : Int) := by
    rw [hv, Int.natCast_mul, Int.mul_ediv_cancel_left _ (by omega)]
  have et : (t / (g : Int)).natAbs = u := by
    rcases Int.natAbs_eq t with e | e
    · rw [e, hu, Int.natCast_mul, Int.mul_ediv_cancel_left _ (by omega), Int.natAbs_natCast]
    · rw [e, hu, Int.natCast_mul, ← Int.mul_neg, Int.mul_ediv_cancel_left _ (by omega), Int.natAbs_neg, Int.natAbs_natCast]
  have gc : Nat.gcd u v = 1 := by
    have e : Nat.gcd (g * u) (g * v) = g * Nat.gcd u v := Nat.gcd_mul_left _ _ _
    rw [← hu, ← hv, show Nat.gcd t.natAbs b' = g from hg.symm] at e
    exact (Nat.eq_of_mul_eq_mul_left gp (by rw [Nat.mul_one]; exact e)).symm
  have ul : u ≤ t.natAbs := by
    rw [hu]
    exact Nat.le_mul_of_pos_left _ gp
  have vl : v ≤ b' := by
    rw [hv]
    exact Nat.le_mul_of_pos_left _ gp
  have vp : 0 < v := by
    rcases Nat.eq_zero_or_pos v with e | e
    · rw [e, Nat.mul_zero] at hv
      omega
    · exact e
  unfold redF at m ⊢
  rw [Int.natAbs_natCast, show Nat.gcd t.natAbs b' = g from hg.symm] at m ⊢
  refine ⟨?_, ?_, m, ?_, ?_⟩
  · show 1 ≤ (b' : Int) / (g : Int)
    rw [ev]
    omega
  · show Nat.gcd (t / (g : Int)).natAbs ((b' : Int) / (g : Int)).natAbs = 1
    rw [et, ev, Int.natAbs_natCast]
    exact gc
  · show (t / (g : Int)).natAbs ≤ 1000
    rw [et]
    omega
  · show (b' : Int) / (g : Int) ≤ 1000
    rw [ev]
    omega
section
variable {P : Program} {w : World} {K : PySem.W.Frag} {mg : Str → Option Value} {base : Heap}
def spOfT (K : PySem.W.Frag) : Sp := fun vs H Q _ => ∃ (p l : Addr) (xs : List V) (k : Nat), vs = [.ref p, .ref l] ∧ Pot (k + 1) H p ∧ SqT K H l xs ∧ 0 < xs.length ∧ xs.length < 100000 ∧
  ∀ (i : Nat) (x : V) (H' : Hp), xs[i]? = some x → Dr p k H H' → Q x H'
theorem ok_l_ofT (T : Txt K mg) : FnOk P w K mg base CX0 2 T.f_l_of T.fd_l_of ["pot", "some"] (spOfT K) := by
  refine T.F_l_of.ok sc_l_of (fun vs H Q E h => ?_) (fun cdv A outer s H vs Q E hr h => ?_)
  · obtain ⟨p, l, xs, k, rfl, _⟩ := h
    rfl
  · obtain ⟨p, l, xs, k, rfl, hP, hL, l0, l1, q⟩ := h
    refine ⟨_, (pss_one (ps_ret (pe_ix ix_tup (pv 1) (pe_call (ok_l_take T) (hr.mono (by decide)) (by rfl) T.g_l_take T.F_l_take.kp T.b_l_take .nil pass0 (pa_cons (pv 0) (pa_cons (pe_callB call_len_seq (by rfl) T.n_len PySem.boot_len (pa_cons (pv 1) pa_nil)) pa_nil))) (fun _ _ => rfl)))), ?_⟩
    refine ⟨.ref l, rfl, .ref p, rfl, .ref l, rfl, l, _, rfl, .inr hL, ?_⟩
    refine ⟨p, xs.length, k, rfl, hP, by omega, by omega, fun r H' r0 r1 d => ?_⟩
    have hr1 : r.toNat < xs.length := by omega
    have hx : xs[r.toNat]? = some (xs[r.toNat]) := List.getElem?_eq_getElem hr1
    have tk := d.1.tk (by
      obtain ⟨a, b, c, h, _⟩ := hP
      exact ⟨_, h⟩)
    refine ⟨l, xs, (r.toNat : Int), _, rfl, congrArg V.int (by omega), SqT.tk hL tk, atI_nat hx, q _ _ _ hx d⟩
theorem ok_l_script_some (T : Txt K mg) : FnOk P w K mg base CX0 2 T.f_l_script_some T.fd_l_script_some ["pot", "pool", "many"] (spSome K) := by
  refine T.F_l_script_some.ok sc_l_script_some (fun vs H Q E h => ?_) (fun cdv A outer s H vs Q E hr h => ?_)
  · obtain ⟨p, l, xs, m, k, rfl, _⟩ := h
    rfl
  · obtain ⟨p, l, xs, m, k, rfl, hP, hL, nlp, hm, l1, q⟩ := h
    refine ⟨_, (pss_cons (ps_par (i := 3) (j := 4) (by rfl) sc_l_script_some.nd rfl rfl (by decide) rfl rfl (pa_cons (pe_callTy call_list_of (by rfl) T.n_list (by decide +kernel) (pa_cons (pv 1) pa_nil)) (pa_cons (pe_lst pa_nil) pa_nil)) (by rfl))
  (pss_cons (ps_for PassesOwn.never rfl (pi_range1 (by rfl) T.n_range (pa_cons (pv 2) pa_nil)) (pg_name (i := 5) sc_l_script_some.nd rfl (Or.inl rfl)) (pss_one (ps_expr (pe_bm PySem.F.plainAttrs_list PySem.F.slot_list_append PySem.F.type_list_append mt_append (pv 4) (pa_cons (pe_bm PySem.F.plainAttrs_list PySem.F.slot_list_pop PySem.F.type_list_pop mt_popAt (pv 3) (pa_cons (pe_call (ok_l_take T) (hr.mono (by decide)) (by rfl) T.g_l_take T.F_l_take.kp T.b_l_take .nil pass0 (pa_cons (pv 0) (pa_cons (pe_callB call_len_seq (by rfl) T.n_len PySem.boot_len (pa_cons (pv 3) pa_nil)) pa_nil))) pa_nil)) pa_nil)))))
  (pss_one (ps_ret (pv 4))))), ?_⟩
    refine ⟨.ref l, rfl, l, xs, rfl, .inl hL, fun e he => ?_⟩
    refine ⟨Nat.zero_le _, fun o ho => ?_⟩
    refine ⟨_, _, rfl, ?_⟩
    have ho' : H o = none := by
      cases z : H o with
      | none => rfl
      | some u =>
        rw [same_new he _ _ z] at ho
        cases ho
    have neo : o ≠ e := fun z => by
      rw [z, upd_same] at ho
      cases ho
    have nep : e ≠ p := hP.ne he
    have nop : o ≠ p := hP.ne ho'
    refine ⟨.int m, rfl, m, rfl, (by omega), (by omega), ?_⟩
    rw [show ((m : Int)).toNat = m from rfl]
    refine for_range (n := m) (fun i σ H' => ∃ (v : Option V) (ys ls : List V), σ = [some (.ref p), some (.ref l), some (.int m), some (.ref e), some (.ref o), v] ∧ i ≤ m ∧ Dr p (k + (m - i)) H H' ∧ H' e = some (.lst ls) ∧ H' o = some (.lst ys) ∧ (ys ++ ls).Perm xs ∧ ys.length = i)
      ⟨none, [], xs, rfl, Nat.zero_le _, ((Dr.start hP (by omega)).new he).new ho, by rw [upd_ne neo.symm, upd_same], upd_same, List.Perm.refl _, rfl⟩ ?_ ?_
    · rintro i σ H' hi ⟨v, ys, ls, rfl, _, d, h1, h2, pm, hl⟩
      have len := pm.length_eq
      rw [List.length_append] at len
      refine ⟨.ref o, rfl, .inl ⟨rfl, _, SqL.of h2⟩, .ref e, rfl, .inl ⟨rfl, _, SqL.of h1⟩, .ref p, rfl, .ref e, rfl, e, _, rfl, .inl (SqL.of h1), ?_⟩
      refine ⟨p, ls.length, k + (m - (i + 1)), rfl, d.2.mono (by omega), by omega, by omega, fun r H1 r0 r1 d1 => ?_⟩
      have hr1 : r.toNat < ls.length := by omega
      have hx : ls[r.toNat]? = some (ls[r.toNat]) := List.getElem?_eq_getElem hr1
      refine ⟨e, ls, r, r.toNat, _, rfl, rfl, d1.st nep h1, by omega, by omega, ?_, hx, ?_⟩
      · have z := seq_nat (n := ls.length) (k := r.toNat) hr1
        rw [show ((r.toNat : Nat) : Int) = r by omega] at z
        exact z
      refine ⟨o, ys, _, rfl, rfl, by rw [upd_ne neo]; exact d1.st nop h2, small1000 (by omega), ?_⟩
      refine ⟨_, ys ++ [ls[r.toNat]], ls.eraseIdx r.toNat, rfl, hi, (((d.trans d1).mut he nep).mut ho' nop), by rw [upd_ne neo.symm, upd_same], upd_same, ?_, by rw [List.length_append, hl]; rfl⟩
      rw [List.append_assoc]
      exact ((perm_pop hx).append_left ys).trans pm
    · rintro σ H' ⟨v, ys, ls, rfl, _, d, h1, h2, pm, hl⟩
      rw [Nat.sub_self] at d
      exact ⟨_, rfl, q o ys ls H' hl pm d ho' nop h2⟩
def spNumL : Sp := fun vs H Q _ => ∃ (t b : Int), vs = [.int 0, .int t, .int b] ∧ 1 ≤ b ∧ b ≤ 1000 ∧ t.natAbs ≤ 1000 ∧ ∀ (a : Addr), H a = none → Q (.ref a) (upd H a (.tup [.int (redF t b).1, .int (redF t b).2]))
theorem ok_l_num (T : Txt K mg) : FnOk P w K mg base CX0 1 T.f_l_num T.fd_l_num ["by", "top", "bottom"] (spNumL) := by
  refine T.F_l_num.ok sc_l_num (fun vs H Q E h => ?_) (fun cdv A outer s H vs Q E hr h => ?_)
  · obtain ⟨t, b, rfl, _⟩ := h
    rfl
  · obtain ⟨t, b, rfl, h1, h2, h3, q⟩ := h
    refine ⟨_, (pss_cons (ps_if (pt_cmpR op_gt (pv 0) pe_int (nomark _)) (pss_one (ps_ret (pe_tup (pa_cons (pe_op op_mod (pe_callTy call_int1 (by rfl) T.n_int (by decide +kernel) (pa_cons (pe_op op_mulW (pv 1) pe_dead) pa_nil)) (pv 0)) (pa_cons pe_int pa_nil))))) pss_nil)
  (pss_cons (ps_par (i := 3) (j := 4) (by rfl) sc_l_num.nd rfl rfl (by decide) rfl rfl (pa_cons (pe_callB call_abs (by rfl) T.n_abs (by decide +kernel) (pa_cons (pv 1) pa_nil)) (pa_cons (pe_callB call_abs (by rfl) T.n_abs (by decide +kernel) (pa_cons (pv 2) pa_nil)) pa_nil)) (by rfl))
  (pss_cons (ps_while PassesOwn.never (pt_cmpR op_gt (pv 4) pe_int (nomark _)) (pss_one (ps_par (i := 3) (j := 4) (by rfl) sc_l_num.nd rfl rfl (by decide) rfl rfl (pa_cons (pv 4) (pa_cons (pe_op op_mod (pe_callTy call_int1 (by rfl) T.n_int (by decide +kernel) (pa_cons (pv 3) pa_nil)) (pv 4)) pa_nil)) (by rfl))))
  (pss_cons (ps_set (i := 3) sc_l_num.nd rfl (Or.inl rfl) (pe_ifExp (pt_cmpR op_gt (pv 2) pe_int (nomark _)) (pv 3) (pe_un un_neg (pv 3))))
  (pss_one (ps_ret (pe_tup (pa_cons (pe_op op_fdivW (pv 1) (pv 3)) (pa_cons (pe_op op_fdivW (pv 2) (pv 3)) pa_nil))))))))), ?_⟩
    refine ⟨_, rfl, _, _, rfl, rfl, _, rfl, ?_⟩
    refine iteF ?_
    dsimp only [tNext, tSeq]
    refine ⟨.int t, rfl, t, rfl, .int b, rfl, b, rfl, _, _, rfl, ?_⟩
    have a1 : (if t < 0 then -t else t) = ((t.natAbs : Nat) : Int) := by
      split <;> omega
    have a2 : (if b < 0 then -b else b) = ((b.natAbs : Nat) : Int) := by
      split <;> omega
    rw [a1, a2]
    refine while_by (fun σ H' => ∃ x y : Nat, σ = [some (.int 0), some (.int t), some (.int b), some (.int (x : Int)), some (.int (y : Int))] ∧ Nat.gcd x y = Nat.gcd t.natAbs b.natAbs ∧ x ≤ 1000 ∧ y ≤ 1000 ∧ H' = H) (fun σ _ => vN σ[4]?)
      ⟨_, _, rfl, rfl, h3, by omega, rfl⟩ ?_ ?_
    · rintro σ H' ⟨x, y, rfl, g, lx, ly, rfl⟩
      refine ⟨_, rfl, _, _, rfl, rfl, _, rfl, ?_⟩
      by_cases hy : 0 < y
      · rw [decide_eq_true (show ((y : Int) > 0) by omega)]
        refine iteT ?_
        refine ⟨_, rfl, _, rfl, .inl ⟨_, rfl, ?_⟩⟩
        refine ⟨_, rfl, _, _, rfl, rfl, (by omega), _, _, rfl, ?_⟩
        have em : (x : Int) % (y : Int) = ((x % y : Nat) : Int) := (Int.natCast_emod _ _).symm
        have lt := Nat.mod_lt x hy
        refine ⟨⟨y, x % y, congrArg (fun z => [some (V.int 0), some (.int t), some (.int b), some (.int (y : Int)), some (.int z)]) em, ?_, ly, by omega, rfl⟩, ?_⟩
        · rw [← g, Nat.gcd_comm x y, Nat.gcd_rec y x, Nat.gcd_comm]
        · show ((x : Int) % (y : Int)).toNat < ((y : Nat) : Int).toNat
          rw [em]
          omega
      · rw [decide_eq_false (show ¬ ((y : Int) > 0) by omega)]
        refine iteF ?_
        have ex : x = Nat.gcd t.natAbs b.natAbs := by
          rw [← g, show y = 0 by omega, Nat.gcd_zero_right]
        dsimp only [tNext, tSeq]
        refine ⟨_, rfl, _, _, rfl, rfl, _, rfl, ?_⟩
        rw [decide_eq_true (show b > 0 by omega)]
        refine iteT ?_
        have xp : 0 < x := by
          rw [ex]
          exact Nat.gcd_pos_of_pos_right _ (by omega)
        have xl : x ≤ 1000 := lx
        have wd : ∀ {i : Int}, CDivW i (x : Int) := wide_div (b := 20) (by omega) (by show (x : Int).natAbs < 2 ^ 20; omega) (by decide) (by decide)
        have q1 : t / (x : Int) = (redF t b).1 := by rw [ex]; rfl
        have q2 : b / (x : Int) = (redF t b).2 := by rw [ex]; rfl
        refine ⟨_, rfl, ?_⟩
        refine ⟨_, rfl, _, rfl, _, _, rfl, rfl, wd, _, rfl, _, rfl, _, _, rfl, rfl, wd, Nat.le_trans (show 2 ≤ 1000 by decide) (by decide), fun a ha => ?_⟩
        have q' := q a ha
        rw [← q1, ← q2] at q'
        exact q'
    · rintro σ H' Q1 Q2 hq ⟨v, e, i, j, e1, e2, k, e3, h⟩
      exact ⟨v, e, i, j, e1, e2, k, e3, hq _ _ h⟩
end
end OG
set_option Elab.async false
set_option linter.all false
set_option maxRecDepth 100000
set_option maxHeartbeats 8000000
namespace OG
open PySem PySem.Spec PyProof.Rows L2
def letterS (i : Nat) : Str := ⟨#[97 + i]⟩
def nmWords : List Str := ["x", "x", "s", "roads", "ones", "sum", "hole", "turns", "closed", "road"]
def allNames (i : Nat) : List Str := letterS i :: nmWords.map (· ++ istr (i : Int))
def keyN (z : Str) : Nat := match tl z with
  | [c] => c - 97
  | l => (l.filter fun c => decide (c < 97)).foldl (fun a c => a * 10 + (c - 48)) 0
/-- a line's name -/
def lnmB (z : Str) : Bool := isNmB 6 (Txt.rstripChars z "0123456789") && (decide (z.length - (Txt.rstripChars z "0123456789").length ≤ 9) && !decide (z ∈ (["script", "around", "one", "road", "close", "turn", "add"] : List Str)))
def niceC (c : Nat) : Bool := (decide (97 ≤ c) && decide (c ≤ 122)) || (decide (48 ≤ c) && decide (c ≤ 57))
/-- a name as it is drawn -/
structure NmAt (i : Nat) (z : Str) : Prop where
  key : keyN z = i
  nm : lnmB z = true
  len : 1 ≤ z.length ∧ z.length ≤ 8
  nice : ∀ c ∈ tl z, niceC c = true
theorem names_ok : ((List.range 20).all fun i => (allNames i).all fun z => decide (keyN z = i) && (lnmB z && (decide (1 ≤ z.length) && decide (z.length ≤ 8)) && (tl z).all niceC)) = true := by decide +kernel
theorem nmAt_of {i : Nat} (hi : i < 20) {z : Str} (h : z ∈ allNames i) : NmAt i z := by
  have := List.all_eq_true.mp (List.all_eq_true.mp names_ok i (List.mem_range.mpr hi)) z h
  simp only [Bool.and_eq_true, decide_eq_true_eq, List.all_eq_true] at this
  exact ⟨this.1, this.2.1.1, this.2.1.2, this.2.2⟩
section
variable {P : Program} {w : World} {K : PySem.W.Frag} {mg : Str → Option Value} {base : Heap}
theorem Pot.lst {k : Nat} {H : Hp} {p : Addr} (h : Pot k H p) : ∃ xs, H p = some (.lst xs) := by
  obtain ⟨a, b, c, h1, _⟩ := h
  exact ⟨_, h1⟩
theorem Dr.tk {p : Addr} {k j : Nat} {H H' : Hp} (d : Dr p k H H') (h : Pot j H p) : TK H H' := d.1.tk h.lst
def spFacD : Sp := fun vs H Q _ => ∃ (p : Addr) (k : Nat), vs = [.ref p, .int 0] ∧ Pot (k + 2) H p ∧ ∀ (a : Addr) (f : Fac) (H' : Hp), Dr p k H H' → H a = none → FacOk f → H' a = some (.tup [.int f.1, .int f.2]) → Q (.ref a) H'
theorem ok_l_script_factor_drawn (T : Txt K mg) : FnOk P w K mg base CX0 3 T.f_l_script_factor_drawn T.fd_l_script_factor_drawn ["pot", "by"] (spFacD) := by
  refine T.F_l_script_factor_drawn.ok sc_l_script_factor_drawn (fun vs H Q E h => ?_) (fun cdv A outer s H vs Q E hr h => ?_)
  · obtain ⟨p, k, rfl, _⟩ := h
    rfl
  · obtain ⟨p, k, rfl, hP, q⟩ := h
    refine ⟨_, (pss_cons (ps_set (i := 2) sc_l_script_factor_drawn.nd rfl (Or.inl rfl) (pe_call (ok_l_of T) (hr.mono (by decide)) (by rfl) T.g_l_of T.F_l_of.kp T.b_l_of .nil pass0 (pa_cons (pv 0) (pa_cons (pe_lst (pa_cons pe_int (pa_cons pe_int (pa_cons pe_int (pa_cons pe_int (pa_cons pe_int (pa_cons pe_int (pa_cons pe_int (pa_cons pe_int pa_nil))))))))) pa_nil))))
  (pss_cons (ps_if (PW.pt (pw_and (pt_cmpR op_gt (pv 1) pe_int (nomark _)) (pw_and1 (pt_cmpR op_eq (pe_op op_mod (pe_callTy call_int1 (by rfl) T.n_int (by decide +kernel) (pa_cons (pv 2) pa_nil)) (pv 1)) pe_int (nomark _))))) (pss_one (ps_set (i := 2) sc_l_script_factor_drawn.nd rfl (Or.inl rfl) pe_int)) pss_nil)
  (pss_one (ps_ret (pe_call (ok_l_num T) (hr.mono (by decide)) (by rfl) T.g_l_num T.F_l_num.kp T.b_l_num .nil pass0 (pa_cons pe_int (pa_cons (pe_call (ok_l_of T) (hr.mono (by decide)) (by rfl) T.g_l_of T.F_l_of.kp T.b_l_of .nil pass0 (pa_cons (pv 0) (pa_cons (pe_lst (pa_cons pe_int (pa_cons (pe_un un_neg pe_int) (pa_cons pe_int (pa_cons (pe_un un_neg pe_int) (pa_cons pe_int (pa_cons pe_int (pa_cons pe_int (pa_cons (pe_un un_neg pe_int) pa_nil))))))))) pa_nil))) (pa_cons (pv 2) pa_nil)))))))), ?_⟩
    have wide : ∀ {n : Nat}, n ≤ 1000 → n ≤ sizeLine := fun h => Nat.le_trans h (by decide)
    refine ⟨.ref p, rfl, wide (show 8 ≤ 1000 by decide), fun l1 hl1 => ?_⟩
    have s1 := same_new (o := .lst (([1, 1, 1, 1, 1, 2, 3, 4] : List Int).map V.int)) hl1
    refine ⟨p, l1, ([1, 1, 1, 1, 1, 2, 3, 4] : List Int).map V.int, k + 1, rfl, hP.same s1, SqL.of upd_same, hP.ne hl1, by decide, by decide, fun i x H1 hx d1 => ?_⟩
    obtain ⟨b, hb, rfl⟩ := int_at hx
    have hb := List.mem_of_getElem? hb
    have b14 : 1 ≤ b ∧ b ≤ 4 := by
      simp only [List.mem_cons, List.mem_nil_iff, or_false] at hb
      omega
    have d01 : Dr p (k + 1) H H1 := ⟨(Same.kp s1).trans d1.1, d1.2⟩
    refine ⟨_, rfl, _, _, rfl, rfl, _, rfl, ?_⟩
    refine iteF ?_
    refine iteF ?_
    dsimp only [tNext, tSeq]
    refine ⟨.ref p, rfl, _, rfl, _, rfl, _, rfl, wide (show 8 ≤ 1000 by decide), fun l2 hl2 => ?_⟩
    have s2 := same_new (o := .lst (([1, -1, 2, -2, 3, 0, 7, -5] : List Int).map V.int)) hl2
    refine ⟨p, l2, ([1, -1, 2, -2, 3, 0, 7, -5] : List Int).map V.int, k, rfl, d01.2.same s2, SqL.of upd_same, d01.2.ne hl2, by decide, by decide, fun i x H2 hx d2 => ?_⟩
    obtain ⟨t, ht, rfl⟩ := int_at hx
    have ht := List.mem_of_getElem? ht
    have t14 : t.natAbs ≤ 7 := by
      simp only [List.mem_cons, List.mem_nil_iff, or_false] at ht
      omega
    have d02 : Dr p k H H2 := ⟨(d01.1.trans (Same.kp s2)).trans d2.1, d2.2⟩
    refine ⟨_, rfl, t, b, rfl, b14.1, by omega, by omega, fun a ha => ?_⟩
    exact q a (redF t b) _ (d02.new ha) (d02.fr ha) (redF_ok b14.1 (by omega) (by omega) (List.mem_flatMap.mpr ⟨t, ht, List.mem_map.mpr ⟨b, hb, rfl⟩⟩)) upd_same
def spName9 : Sp := fun vs H Q _ => ∃ (p : Addr) (i k : Nat), vs = [.ref p, .int (i : Int)] ∧ i < 20 ∧ Pot (k + 2) H p ∧ ∀ (z : Str) (H' : Hp), Dr p k H H' → NmAt i z → Q (.str z) H'
theorem ok_l_script_name (T : Txt K mg) : FnOk P w K mg base CX0 3 T.f_l_script_name T.fd_l_script_name ["pot", "at"] (spName9) := by
  refine T.F_l_script_name.ok sc_l_script_name (fun vs H Q E h => ?_) (fun cdv A outer s H vs Q E hr h => ?_)
  · obtain ⟨p, i, k, rfl, _⟩ := h
    rfl
  · obtain ⟨p, i, k, rfl, hi, hP, q⟩ := h
    refine ⟨_, (pss_cons (ps_set (i := 2) sc_l_script_name.nd rfl (Or.inl rfl) (pe_call (ok_l_take T) (hr.mono (by decide)) (by rfl) T.g_l_take T.F_l_take.kp T.b_l_take .nil pass0 (pa_cons (pv 0) (pa_cons pe_int pa_nil))))
  (pss_cons (ps_if (PW.pt (pw_and (pt_cmpR op_eq (pv 2) pe_int (nomark _)) (pw_and1 (pt_cmpR op_lt (pv 1) pe_int (nomark _))))) (pss_one (ps_ret (pe_ix ix_str pe_str (pv 1) (fun _ _ => rfl)))) pss_nil)
  (pss_one (ps_ret (pe_op op_add_str (pe_call (ok_l_of T) (hr.mono (by decide)) (by rfl) T.g_l_of T.F_l_of.kp T.b_l_of .nil pass0 (pa_cons (pv 0) (pa_cons (pe_lst (pa_cons pe_str (pa_cons pe_str (pa_cons pe_str (pa_cons pe_str (pa_cons pe_str (pa_cons pe_str (pa_cons pe_str (pa_cons pe_str (pa_cons pe_str (pa_cons pe_str pa_nil))))))))))) pa_nil))) (pe_callTy call_str_int (by rfl) T.n_str (by decide +kernel) (pa_cons (pv 1) pa_nil))))))), ?_⟩
    have wide : ∀ {n : Nat}, n ≤ 1000 → n ≤ sizeLine := fun h => Nat.le_trans h (by decide)
    refine ⟨.ref p, rfl, p, 4, k + 1, rfl, hP, by decide, by decide, fun r H1 r0 r1 d1 => ?_⟩
    refine ⟨_, rfl, rfl, _, rfl, ?_⟩
    by_cases h0 : r = 0
    · rw [h0, decide_eq_true rfl]
      refine iteT ?_
      refine ⟨_, rfl, _, _, rfl, rfl, _, rfl, ?_⟩
      rw [decide_eq_true (show ((i : Nat) : Int) < 26 by omega)]
      refine iteT ?_
      have at_ : ∀ i < 20, atI (tl "abcdefghijklmnopqrstuvwxyz") ((i : Nat) : Int) = some (97 + i) := by decide +kernel
      exact ⟨_, rfl, _, (i : Int), 97 + i, rfl, rfl, wide (show 26 ≤ 1000 by decide), at_ i hi, q (letterS i) H1 ⟨d1.1, d1.2.mono (by omega)⟩ (nmAt_of hi List.mem_cons_self)⟩
    · rw [decide_eq_false (fun z => h0 (V.int.inj z))]
      refine iteF ?_
      refine iteF ?_
      dsimp only [tNext, tSeq]
      refine ⟨.ref p, rfl, wide (show 10 ≤ 1000 by decide), fun l1 hl1 => ?_⟩
      have s1 := same_new (o := .lst (nmWords.map V.str)) hl1
      refine ⟨p, l1, nmWords.map V.str, k, rfl, d1.2.same s1, SqL.of upd_same, d1.2.ne hl1, by decide, by decide, fun j x H2 hx d2 => ?_⟩
      obtain ⟨wd, hw, rfl⟩ := str_at hx
      have hw := List.mem_of_getElem? hw
      have wl : wd.length ≤ 6 := by
        have : ∀ w ∈ nmWords, w.length ≤ 6 := by decide +kernel
        exact this wd hw
      have il := istr_len (i := (i : Int)) (by omega) (by omega)
      refine ⟨_, rfl, i, rfl, small_log (by omega) (by omega), _, _, rfl, rfl, wide (by show _ + (istr (i : Int)).length ≤ _; omega), ?_⟩
      exact q (wd ++ istr (i : Int)) H2 ⟨(d1.1.trans (Same.kp s1)).trans d2.1, d2.2⟩ (nmAt_of hi (List.mem_cons_of_mem _ (List.mem_map.mpr ⟨wd, hw, rfl⟩)))
end
end OG
set_option Elab.async false
set_option linter.all false
set_option maxRecDepth 100000
set_option maxHeartbeats 4000000
namespace OGX
open PySem PySem.Spec PyProof.Rows L2
/-- at a: an exception of the class cls that is kept, its dict at d -/
def ExV (cls : Value) (d : Option Addr) (a : Addr) : HO := .ext fun h => ∃ (oe : Obj) (vs : Array Value), h.get? a = some oe ∧ Zc cls d oe ∧ oe.data = .fields vs
theorem exV_ok {P : Program} {w : World} {H : Hp} {h : Heap} {a : Addr} {cls : Value} {d : Option Addr} {oe : Obj} {vs : Array Value} (e : h.get? a = some oe) (z : Zc cls d oe) (dd : oe.data = .fields vs) : ObjOk P w H h a (ExV cls d a) :=
  ⟨⟨oe, vs, e, z, dd⟩, ⟨_, e⟩, fun h1 h2 z k => by
    obtain ⟨oe, vs, e, z, dd⟩ := z
    exact ⟨oe, vs, k _ e, z, dd⟩⟩
section
variable {X : Cx} {pins : List (Addr × Obj)} {σ : L2.St} {H : Hp} {s : Shared}
theorem keepX {a : Addr} {cls : Value} {d : Option Addr} {oe : Obj} {vs : Array Value} (I : Inv X pins σ H s) (ha : s.heap.get? a = some oe) (hz : Zc cls d oe) (hd : oe.data = .fields vs) (na : H a = none) (n0 : X.s_0.heap.get? a = none) (nL : a ≠ X.env.locals) (np : ∀ p ∈ X.pn ++ pins, p.1 ≠ a) :
    Inv X pins σ (upd H a (ExV cls d a)) s := by
  have ne : ∀ {b : Addr} {o : HO}, H b = some o → b ≠ a := fun {b o} e z => by
    rw [z, na] at e
    cases e
  have b0 := I.base
  refine ⟨I.ok, I.os, I.bare, ?_, I.loc, I.cell, ?_, fun x c e => ?_, fun p hp => ?_, fun b o q => ?_, I.len⟩
  · exact {
      keep := fun b o q n hf hx => b0.keep b o q n hf hx
      slot := fun b o q n hf hx => b0.slot b o q n hf hx
      free := fun b o q n hx => by
        rw [upd_ne (fun z => by rw [z, n0] at q; cases q)]
        exact b0.free b o q n hx
      there := fun b o q hx => b0.there b o q hx
      tups := fun b xs q => by
        have e := b0.tups b xs q
        rw [upd_ne (ne e)]
        exact e
      frzs := fun b o v q => by
        have e := b0.frzs b o v q
        rw [upd_ne (ne e)]
        exact e
      tbls := fun b ps q => by
        obtain ⟨more, e⟩ := b0.tbls b ps q
        exact ⟨more, by rw [upd_ne (ne e)]; exact e⟩ }
  · rw [upd_ne (Ne.symm nL)]
    exact I.free
  · rw [upd_ne (fun z => ?_)]
    · exact I.freeC x c e
    · obtain ⟨v, o, ho, hc⟩ := I.cell x c e
      rw [z, ha] at ho
      cases ho
      rw [hd] at hc
      cases hc
  · obtain ⟨p1, p2, p3⟩ := I.pin p hp
    exact ⟨p1, by rw [upd_ne (np p hp)]; exact p2, p3⟩
  · by_cases hb : b = a
    · subst hb
      rw [upd_same] at q
      cases q
      exact exV_ok ha hz hd
    · rw [upd_ne hb] at q
      exact (I.hok b o q).stay (fun c v hc z => z) (fun c hc => by rw [upd_ne (ne hc)]; exact hc) (fun c xs hc => by rw [upd_ne (ne hc)]; exact hc)
end
/-- what the clause 'except x as n' wishes, the exception kept behind the suite -/
def wKeep (K : PySem.W.Frag) (c : Value) (i : Nat) (ts : Addr → Value → Option Addr → TS) (Wout : WX) (D : Ends) : WX := fun cls d σ H =>
  ∃ b, PySem.W.exmOne K cls c = some b ∧ (b = true → ∀ a, H a = none → ts a cls d { nx := fun σ' H' => H' a = none → D.nx (σ'.set i none) (upd H' a (ExV cls d a)), rt := fun _ _ => False, bk := fun _ _ => False, ct := fun _ _ => False } (σ.set i (some (.ref a))) H) ∧
    (b = false → Wout cls d σ H)
section
variable {X : Cx} {x n : Str} {c : Value} {i : Nat} {body suite : List Stmt} {b₀ : Stmt} {np pos pos' : Pos} {tb : WX → TS} {ts : Addr → Value → Option Addr → TS} {Wout : WX}
theorem ps_try_keep (hex : X.ex = []) (hs : X.stack = X.env :: X.outer) (hf : X.env.frame = some X.env.locals) (hN : X.N.Nodup) (hi : X.N[i]? = some n) (hln : X.env.kindOf n = some .local) (hc : Names X x c) (tk : Takes X Wout)
    (hb : ∀ (W : WX) (pn : List (Addr × Obj)) (xe : Value → Shared → Prop), Takes (X.tr pn xe) W → PassesOwn (model X.prog X.w) X.A X.env xe → PSs (X.tr pn xe) body (tb W))
    (hsu : ∀ (a : Addr) (oe : Obj) (cls : Value) (d : Option Addr) (pn : List (Addr × Obj)), Zc cls d oe → (∃ vs, oe.data = .fields vs) → PSs (X.suite a ((a, oe) :: pn)) (b₀ :: suite) (ts a cls d)) :
    PS X (.Try body [.ExceptHandler (some (.Name x np)) (some n) (b₀ :: suite) pos'] [] [] pos) (fun D σ H => tb (wKeep X.K c i ts Wout D) D σ H) := by
  refine ⟨fun pins s σ H D I h => ?_⟩
  have ok := I.ok
  have hfr : X.A.frames = some (X.env :: X.outer) := by rw [ok.frames, hs]
  have hloc : Loc X.env.scope n := .inl hln
  refine wpAny_Try_except ?_
  refine wpAny_mono ((hb (wKeep X.K c i ts Wout D) (X.pn ++ pins) (fun e s₁ => wpAny (model X.prog X.w) X.A (noteFrame e X.env) (fun _ s₂ => wpAny (model X.prog X.w) X.A (setFlight e none) (fun _ s₃ =>
    wpAny (model X.prog X.w) X.A (handleBy e X.env [.ExceptHandler (some (.Name x np)) (some n) (b₀ :: suite) pos']) (SP X pins D) X.xe s₃) X.xe s₂) X.xe s₁) (fun u s' xx => ?_) PassesOwn.looking).run [] s σ H D (I.toTry _) h) (fun f s1 hsp => ?_) (fun e s1 he => he)
  · -- the catch
    obtain ⟨a, B, sI, pins', σ', H', cls, d, rfl, J', nb, up, sky, na, os, ag, b, hb1, hyes, hno⟩ := xx
    have J : Inv X pins σ' H' sI := J'.ofTry ok
    have sky' : Sky B (X.env :: X.outer) a (Zc cls d) X.env.locals s'.heap := by rw [← hs]; exact sky
    show wpAny (model X.prog X.w) X.A (noteFrame (.ref a) X.env) _ _ _
    refine Sky.land Zc.steady hfr hf sky' fun h3 fl3 up3 => ?_
    have J3 : Inv X pins σ' H' { s' with heap := h3 } := J.landed nb fl3.1 (up.trans up3) os ag
    obtain ⟨oe3, vs3, he3, hz3, hd3⟩ := fl3.there
    have notFr : ∀ {h : Heap} {o : Obj} {vs : Array Value}, h.FunFrames B (X.env :: X.outer) → h.get? a = some o → o.data = .fields vs → a ∉ frs (X.env :: X.outer) := fun {h o vs} ff e dd hm => by
      obtain ⟨_, o', e', hnf⟩ := ff.mem hm
      rw [e] at e'; cases e'
      exact hnf _ dd
    have nfr := notFr fl3.2.2.1 he3 hd3
    have hB : B.get? a = none := fl3.2.1
    have nI : sI.heap.get? a = none := by
      cases q : sI.heap.get? a with
      | none => rfl
      | some o =>
        have e := nb a o q (by rw [hs]; exact nfr)
        rw [hB] at e
        cases e
    have n0 : X.s_0.heap.get? a = none := by
      cases q : X.s_0.heap.get? a with
      | none => rfl
      | some o =>
        obtain ⟨o', e⟩ := J.base.there a o q (by rw [hex]; simp)
        rw [nI] at e
        cases e
    have npin : ∀ p ∈ X.pn ++ pins, p.1 ≠ a := fun p hp z => by
      have e := (J.pin p hp).1
      rw [z, nI] at e
      cases e
    have nL : a ≠ X.env.locals := fun z => nfr (List.mem_filterMap.mpr ⟨X.env, List.mem_cons_self, by rw [hf, z]⟩)
    have nF : a ∉ X.fs := fun hm => by
      obtain ⟨e, he, q⟩ := List.mem_filterMap.mp hm
      exact nfr (List.mem_filterMap.mpr ⟨e, List.mem_cons_of_mem _ he, q⟩)
    have S3 := J3.suite he3 hd3 na nL nF
    refine wpAny_handleBy_cons (codeAny_handlers_test ?_) (by intro q; cases q)
    have LT : PySem.W.Looks (model X.prog X.w) h3 (typeOf (.ref a)) cls := fun A Q E s k q => wpAny_typeOf_ref (k _ _ he3) (by rw [hz3.1]; exact q)
    have LM := PySem.W.exm_one (M := model X.prog X.w) (J3.kIn) LT hb1
    have test : ∀ {Q : Value → Shared → Prop} {E : Value → Shared → Prop}, Q c { s' with heap := h3 } → wpAny (model X.prog X.w) (X.A.mark (some (.ref a))) (eval (.Name x np) X.env) Q E { s' with heap := h3 } := fun {Q E} q => by
      obtain ⟨hg, hdbg, hm | ⟨hm, hv, hnn⟩⟩ := hc
      · exact ld_glob (X := X.suite a ((a, oe3) :: (X.pn ++ pins))) S3 hg hm q hdbg
      · exact ld_blt (X := X.suite a ((a, oe3) :: (X.pn ++ pins))) S3 hg hm hv q hnn hdbg
    refine test (LM.here ?_)
    cases b with
    | true =>
      refine codeAny_handlers_suite_as ?_
      refine HandSPX.lands_againZ fl3 fun h4 fl4 up4 => ?_
      have J4 : Inv X pins σ' H' { s' with heap := h4 } := J.landed nb fl4.1 ((up.trans up3).trans up4) os ag
      obtain ⟨oe4, vs4, he4, hz4, hd4⟩ := fl4.there
      have S4 := J4.suite he4 hd4 na nL nF
      refine store_ok (X := X.suite a ((a, oe4) :: (X.pn ++ pins))) (v := .ref a) S4 hN hi hloc rfl (fun s5 S5 => ?_) (.inr hln)
      refine wpAny_mono ((hsu a oe4 cls d (X.pn ++ pins) hz4 ⟨_, hd4⟩).run [] s5 _ H' _ S5 (hyes rfl a na)) (fun f s6 hsp => ?_) (fun _ _ z => False.elim z)
      cases f with
      | next =>
        obtain ⟨σ6, H6, S6, q6⟩ := hsp
        obtain ⟨p1, p2, _⟩ := S6.pin (a, oe4) (List.mem_append_left _ List.mem_cons_self)
        have J6 : Inv X pins σ6 (upd H6 a (ExV cls d a)) s6 := keepX (S6.unsuite ok) p1 hz4 hd4 p2 n0 nL npin
        exact gone_ok J6 hN hi hln fun s7 J7 => ⟨_, _, J7, q6 p2⟩
      | brk =>
        obtain ⟨σ6, H6, S6, q6⟩ := hsp
        exact False.elim q6
      | cont =>
        obtain ⟨σ6, H6, S6, q6⟩ := hsp
        exact False.elim q6
      | ret u =>
        obtain ⟨v6, σ6, H6, S6, r6, q6⟩ := hsp
        exact False.elim q6
    | false =>
      show wpAny _ X.A (handleBy (.ref a) X.env []) _ _ _
      refine wpAny_handleBy_nil ?_
      obtain ⟨k1, k2, k3, oe, vs, T, oT, ts', he, hz, hd, h1, hr⟩ := id fl3
      unfold PySem.passOn
      refine wpAny_bind (wpAny_field he hd h1 ?_)
      rw [if_neg (show ¬ ((Value.ref T == Value.none) = true) from by simp)]
      have fin : wpAny (model X.prog X.w) X.A (setFlight (.ref a) X.env.frame) (fun _ s4 => wpAny (model X.prog X.w) X.A (throw (.ref a) : Sem Flow) (SP X pins D) X.xe s4) X.xe { s' with heap := h3 } := by
        rw [hf]
        refine HandSPX.setFlight_upZ fl3 fun h4 hh4 up4 => wpAny_throw (tk _ _ ?_)
        exact ⟨a, B, sI, pins, σ', H', cls, d, rfl, J, nb, (up.trans up3).trans up4, .inr (.inr (by rw [hs]; exact hh4)), na, os, ag, hno rfl⟩
      first
        | exact wpAny_bind (wpAny_pure (wpAny_bind fin))
        | exact wpAny_bind fin
  · cases f with
    | next =>
      obtain ⟨σ', H', J', q⟩ := hsp
      exact wpAny_execs_nil ⟨σ', H', J'.ofTry ok, q⟩
    | brk =>
      obtain ⟨σ', H', J', q⟩ := hsp
      exact ⟨σ', H', J'.ofTry ok, q⟩
    | cont =>
      obtain ⟨σ', H', J', q⟩ := hsp
      exact ⟨σ', H', J'.ofTry ok, q⟩
    | ret u =>
      obtain ⟨v, σ', H', J', r, q⟩ := hsp
      exact ⟨v, σ', H', J'.ofTry ok, r, q⟩
end
/-- e.f, e a kept exception -/
def tXv (C : Addr) (f : Str) (te : TE) : TE := fun σ H Q => te σ H fun x H1 => ∃ (a dd : Addr) (fs : List (Str × V)) (v : V), x = .ref a ∧ H1 a = some (ExV (.ref C) (some dd) a) ∧ H1 dd = some (.xd fs) ∧ fs.lookup f = some v ∧ Q v H1
theorem pe_xv {X : Cx} {C : Addr} {e : Expr} {te : TE} {pos : Pos} {n : Str} (T : XfC X.K C) (hno : PySem.W.findIn X.K (.ref C) n = some none)
    (he : PE X e te) (hb : attributeBase e n X.env (eval e X.env) = eval e X.env := by rfl) :
    PE X (.Attribute e n pos) (tXv C n te) := by
  refine ⟨fun pins s σ H Q I h => ?_⟩
  refine attr_of hb (thn (he.run pins s σ H _ I h) fun u s1 hh => ?_)
  obtain ⟨x, H1, I1, rx, a, dd, fs, v, ex, eo, ea, l, q⟩ := hh
  subst ex
  obtain rfl : u = Value.ref a := rx
  obtain ⟨⟨oe, vs, ha, hz, hd⟩, _, _⟩ := I1.hok a _ eo
  have hx : ObjOk X.prog X.w H1 s1.heap dd (.xd fs) := I1.hok dd _ ea
  obtain ⟨mA, hns, hr⟩ := hx
  obtain ⟨od, ho, hl⟩ := lookIn_ns hns
  obtain ⟨u, hu, ru⟩ := RelO.some_of (v := v) (o := mA n) (by rw [← l]; exact hr n)
  have J : PySem.W.InstAt s1.heap a oe C (some od) := ⟨ha, hz.1, by unfold PySem.W.notCls; rw [hd] <;> rfl, by rw [hz.2]; exact ho⟩
  exact HandSPX.exc_get I1.kIn J T.ga T.gg T.exC (PySem.W.findObj_own T.hdC hno rfl (by rw [hl, hu])) (handed_of ru) ⟨v, H1, I1.tok _, ru, q⟩
/-- isinstance(e, c), e a kept exception -/
def rIsK (K : PySem.W.Frag) : List V → Hp → VK → Prop := fun xs H Q => ∃ (a D : Addr) (d : Addr) (fs : List (Str × V)) (c : V) (cv : Value) (b : Bool), xs = [.ref a, c] ∧ H a = some (ExV (.ref D) (some d) a) ∧ H d = some (.xd fs) ∧ ExcC K D ∧ (∀ u, RelV c u → u = cv) ∧ PySem.W.kitOne K (.ref D) cv = some b ∧ Q (.bl b) H
theorem call_isK {X : Cx} : CallR X (.builtin "isinstance") (rIsK X.K) := by
  intro pins s σ H xs us Q I r h
  obtain ⟨a, D, d, fs, c, cv, b, rfl, ha, hfs, C, hcv, e, q⟩ := h
  cases r with
  | cons rx rr =>
    cases rr with
    | cons rt rr =>
      cases rr
      cases rx
      have ec := hcv _ rt
      subst ec
      obtain ⟨⟨oe, vs, hget, hz, hd⟩, _, _⟩ := I.hok a _ ha
      have hx : ObjOk X.prog X.w H s.heap d (.xd fs) := I.hok d _ hfs
      obtain ⟨mA, hns, hr⟩ := hx
      obtain ⟨od, ho, hl⟩ := lookIn_ns hns
      have J : PySem.W.InstAt s.heap a oe D (some od) := ⟨hget, hz.1, by unfold PySem.W.notCls; rw [hd] <;> rfl, by rw [hz.2]; exact ho⟩
      obtain ⟨cdD, hcD, _⟩ := PySem.W.any_some C.hd
      exact PySem.W.kia_one (PySem.W.kitx_exc (by rw [hcD]; rfl) C.hg C.hk C.hs C.ha C.hn C.ht C.hm) I.kIn J e (fun z => nomatch z) fun tk => ⟨.bl b, H, I.kept (t' := tk) fun _ _ z => z, rfl, q⟩
end OGX
set_option Elab.async false
set_option linter.all false
set_option maxRecDepth 100000
set_option maxHeartbeats 4000000
namespace OGX
open PySem PySem.Spec PyProof.Rows L2
/-- the list at a as it stands at each turn, each item in a new pair behind its number from m on -/
def IteS (K : PySem.W.Frag) (a : Addr) (m : Nat) : It :=
  ⟨fun i H => ∃ (xs : List V) (x : V), SqL K H a xs ∧ xs[i]? = some x, fun i H v H' => ∃ T x, v = .ref T ∧ H T = none ∧ H' = upd H T (.tup [.int ((m + i : Nat) : Int), x]) ∧ ∀ xs, SqL K H a xs → xs[i]? = some x, fun i H => ∃ xs : List V, SqL K H a xs ∧ xs.length ≤ i⟩
theorem turn_enumS {P : Program} {w : World} {K : PySem.W.Frag} {elts : List Expr} {kk : Nat} {tpos : Pos} (m : Nat) (a e it : Addr) (hea : e ≠ a) (hia : a ≠ it) :
    Turn P w K (.Tuple elts kk tpos) (IteS K a m) [e, it] e (fun i h => (∃ old, IsEnum h e it ((m + i : Nat) : Int) old) ∧ h.IsListIter it a i ∧ e ≠ it) where
  mem := by simp
  obj := fun i h st b hb => by
    obtain ⟨⟨old, he⟩, ⟨o, ho, hc, hd⟩, _⟩ := st
    have e' : b = e ∨ b = it := by simpa using hb
    rcases e' with z | z
    · rw [z]; exact ⟨_, he, fun v q => nomatch q⟩
    · rw [z]; exact ⟨o, ho, fun v q => by rw [hd] at q; cases q⟩
  keep := fun i h h' st k => let ⟨⟨old, he⟩, hi, hne⟩ := st; ⟨⟨old, k e (by simp) _ he⟩, hi.at fun o q => k it (by simp) o q, hne⟩
  item := by
    intro X hP hw hK hc i pins s σ H E I hf st hg
    subst hP hw hK
    obtain ⟨⟨old, he⟩, hit, hne⟩ := st
    obtain ⟨xs, x, hq, hx⟩ := hg
    obtain ⟨its, rv, p, hz⟩ := I.list hq
    obtain ⟨u, hu, ru⟩ := rv.get hx
    have hel : e < s.heap.objs.size := Heap.lt_size he
    have hil : it < s.heap.objs.size := by obtain ⟨_, q, _⟩ := hit; exact Heap.lt_size q
    have hlt : i < its.toArray.size := by
      have := (List.getElem?_eq_some_iff.mp hu).1
      simpa using this
    refine wpAny_pyNext_enum_itemC (Draws.list (A := X.A.in1) (I.ok.hd hc) it a hia its.toArray) he ⟨hit, p.isList⟩ hlt hne (by simp [hne, hea]) fun u2 h' tk hu2 ho st' hT hsz hk => ?_
    have e2 : u2 = u := by
      have q : its.toArray[i]? = some u := by simpa using hu
      rw [q] at hu2
      exact (Option.some.inj hu2).symm
    subst e2
    obtain ⟨hit', _⟩ := st'
    refine ⟨_, rfl, wpAny_letOwnedTupleGo_enum (s := { s with heap := h', toks := tk + 1 }) ho fun h'' he' sb => ?_⟩
    have hT2 : h''.get? s.heap.objs.size = some { cls := .type "tuple", data := .seq #[.int ((m + i : Nat) : Int) tk, u2] } := (sb.2 _ (Nat.ne_of_gt hel)).trans hT
    have new : ObjOk X.prog X.w (upd H s.heap.objs.size (.tup [.int ((m + i : Nat) : Int), x])) h'' s.heap.objs.size (.tup [.int ((m + i : Nat) : Int), x]) :=
      ⟨by show 2 ≤ sizeLine; decide, [.int ((m + i : Nat) : Int) tk, u2], .cons ⟨_, rfl⟩ (.cons ru .nil), ⟨_, hT2, rfl, _, rfl⟩⟩
    have I1 : Inv X pins σ (upd H s.heap.objs.size (.tup [.int ((m + i : Nat) : Int), x])) { s with heap := h'', toks := tk + 1 } :=
      I.turnedNew (ch := [e, it]) (fun b ob hb q => (sb.2 b (fun z => hb (by simp [z]))).trans (hk b ob (fun z => hb (by simp [z])) (fun z => hb (by simp [z])) q)) hf (Nat.le_refl _) new
    refine ⟨.ref s.heap.objs.size, _, I1, rfl, ⟨_, x, rfl, I.hok.fresh (Nat.le_refl _), rfl, fun ys hy => by rw [I.list_inj hy hq]; exact hx⟩, ⟨⟨u2, ?_⟩, hit'.at fun o q => (sb.2 it (Ne.symm hne)).trans q, hne⟩, fun b hb => ?_⟩
    · have e1 : ((m + (i + 1) : Nat) : Int) = ((m + i : Nat) : Int) + 1 := by omega
      rw [e1]; exact he'
    · have hb' : b < s.heap.objs.size := by
        have e' : b = e ∨ b = it := by simpa using hb
        rcases e' with z | z
        · rw [z]; exact hel
        · rw [z]; exact hil
      rw [upd_ne (Nat.ne_of_lt hb')]
      exact (hf b hb).1
  done := by
    intro X hP hw hK hc i pins s σ H E I hf st hg
    subst hP hw hK
    obtain ⟨⟨old, he⟩, hit, hne⟩ := st
    obtain ⟨xs, hq, hx⟩ := hg
    obtain ⟨its, rv, p, hz⟩ := I.list hq
    obtain ⟨f0, f1, f2, f3, f4, f5⟩ := hf it (by simp)
    have hl := rv.length
    have hT : s.TypeIs (.ref e) "enumerate" := ⟨_, he, rfl⟩
    unfold pyNext
    refine wpAny_bind (wpAny_attempt (wpAny_callSpecial?_slot (name := Str.ofString "__next__") hT F.slot_enumerate_next
      (wpAny_call_entry F.slot_enumerate_next hT F.entry_enumerate_next ?_ (F.args_enumerate_next_1 _))))
    show wpAny _ _ (field (.ref e) 2 >>= _) _ _ _
    refine wpAny_bind (wpAny_field he rfl (x := .ref it) rfl ?_)
    refine wpAny_bind (wpAny_nextOf_list_end (I.ok.hd hc) hit p.isList (by simp; omega) fun h' x he' hx' => ?_)
    obtain ⟨o, ho, hcc⟩ := hx'
    refine wpAny_bind (wpAny_isInstance (T := "StopIteration") (b := true) ⟨o, ho, hcc⟩ isSubtype_stop ?_)
    exact wpAny_pure ⟨rfl, I.turned (t' := s.toks) (fun b o hb q => he' b o hb q) f0 f1 f3 f4 f5⟩
  self := fun A i s Q E st h => let ⟨⟨_, he⟩, _⟩ := st; wpAny_pyIter_enum he h
theorem callWith_type_kw {M : Model} {A : Around} {E : Value → Shared → Prop} {s : Shared} {env : Env} {pos : Pos} {id : String} {e : Expr} {rest : List Expr} {kws : List Keyword} {Q : Value → Shared → Prop}
    (h : wpAny M A (spliced (backTo pos (starEach (e :: rest) env))) (fun vs s₁ => wpAny M A (evalAll ((backToKw pos (keywordEach kws env)).map (·.2)))
      (fun kvs s₂ => wpAny M A (call (.type id) vs (((backToKw pos (keywordEach kws env)).filterMap (·.1)).zip kvs)) Q E s₂) E s₁) E s)
    (he : backTo pos (starEach (e :: rest) env) = (false, eval e env) :: backTo pos (starEach rest env) := by rfl)
    (hplain : (backTo pos (starEach (e :: rest) env)).any (·.1) = false := by rfl)
    (hall : (backToKw pos (keywordEach kws env)).all (·.1.isSome) = true := by rfl)
    (hkw : (backToKw pos (keywordEach kws env)).any (·.1.isNone) = false := by rfl) :
    wpAny M A (callWith pos (.type id) [] (backTo pos (starEach (e :: rest) env)) (backToKw pos (keywordEach kws env))) Q E s := by
  have key : wpAny M A (evalArgs (.type id) true (backTo pos (starEach (e :: rest) env)) (backToKw pos (keywordEach kws env))) (fun a s₁ => wpAny M A (call (.type id) ([] ++ a.pos) a.kw) Q E s₁) E s := by
    rw [he] at h ⊢
    exact evalArgs_kwB hall h
  unfold callWith
  refine wpAny_bind (wpAny_holding (wpAny_mono key (fun a s₁ h₁ => wpAny_bind (wpAny_standAt ?_)) fun _ _ x => x))
  simp only [hplain, hkw, Bool.or_false]
  refine wpAny_bind (wpAny_pure ?_)
  exact wpAny_bind (wpAny_mono h₁ (fun r s₂ hr => wpAny_bind (wpAny_holding (wpAny_point (wpAny_pure hr)))) fun _ _ x => x)
def iEnumS (K : PySem.W.Frag) (ta tk : TA) : TI := fun σ H R => ta σ H fun vs H1 => tk σ H1 fun zs H2 => ∃ a xs, ∃ m : Nat, vs = [.ref a] ∧ zs = [.int (m : Int)] ∧ m ≤ 1000 ∧ SqL K H2 a xs ∧ R (IteS K a m) H2
theorem pi_enumS {X : Cx} {e ke : Expr} {ta tk : TA} {p pos tpos kpos : Pos} {elts : List Expr} {kk : Nat} (hg : Gl X "enumerate") (hm : X.mg "enumerate" = none) (ha : PA X [e] ta) (hk : PK X [⟨some "start", ke, kpos⟩] tk)
    (he : backTo pos (starEach [e] X.env) = (false, eval e X.env) :: backTo pos (starEach [] X.env) := by rfl)
    (hall : (backToKw pos (keywordEach [⟨some "start", ke, kpos⟩] X.env)).all (·.1.isSome) = true := by rfl) (hks : (backToKw pos (keywordEach [⟨some "start", ke, kpos⟩] X.env)).filterMap (·.1) = [("start" : Str)] := by rfl) :
    PI X (.Tuple elts kk tpos) (.Call (.Name "enumerate" p) [e] [⟨some "start", ke, kpos⟩] pos) (iEnumS X.K ta tk) := by
  refine ⟨fun pins s σ H R I h => ?_⟩
  refine wpAny_Call_Name_kw (ld_blt I hg hm boot_enumerate (callWith_type_kw (thn (ha.run pos pins s σ H _ I h) fun us s1 ⟨vs, H1, I1, r1, q1⟩ => thn (hk.run pos pins s1 σ H1 _ I1 q1) fun ws s2 ⟨zs, H2, I2, r2, q2⟩ => ?_) he (by rw [he]; rfl) hall (by rfl)))
  obtain ⟨a, xs, m, ex, ez, hm1000, hq, q⟩ := q2
  subst ex
  subst ez
  rw [hks]
  cases r1 with
  | cons r rr =>
    cases rr
    cases r
    cases r2 with
    | cons rz rrz =>
      cases rrz
      obtain ⟨tz, rfl⟩ := rz
      obtain ⟨its, rv, p', hz⟩ := I2.list hq
      have hal : a < s2.heap.objs.size := by
        obtain ⟨o, ho, _⟩ := p'.isList
        exact Heap.lt_size ho
      refine enum_begins_start (k := (m : Int)) (t := tz) (begins_list a its.toArray) p'.isList (by rw [show (2:Int) ^ 63 = 9223372036854775808 by decide]; omega) (by rw [show (2:Int) ^ 63 = 9223372036854775808 by decide]; omega) fun h' he' hit hsz hkk => wpAny_pyIter_enum he' ?_
      have I3 : Inv X pins σ H2 { s2 with heap := h' } := I2.kept (t' := s2.toks) hkk
      have hit2 : h'.IsListIter s2.heap.objs.size a 0 := ⟨_, hit, rfl, rfl⟩
      refine ⟨s2.heap.objs.size + 1, [s2.heap.objs.size + 1, s2.heap.objs.size], _, _, H2, rfl, I3, turn_enumS m a (s2.heap.objs.size + 1) s2.heap.objs.size (Nat.ne_of_gt (Nat.lt_succ_of_lt hal)) (Nat.ne_of_lt hal), ⟨⟨.none, he'⟩, hit2, Nat.succ_ne_self _⟩, fun b hb => ?_, q⟩
      have e' : b = s2.heap.objs.size + 1 ∨ b = s2.heap.objs.size := by simpa using hb
      have hle : s2.heap.objs.size ≤ b := by
        rcases e' with z | z
        · rw [z]; exact Nat.le_add_right _ _
        · rw [z]; exact Nat.le_refl _
      exact I2.fpOk hle (I2.hok.fresh hle)
theorem for_enumS {K : PySem.W.Frag} {a : Addr} {xs : List V} {g : TG} {tb : TS} {D : Ends} {σ : L2.St} {H : Hp} {m0 : Nat} (Pv : Nat → L2.St → Hp → Prop) (h0 : Pv 0 σ H) (hq : ∀ i σ H, Pv i σ H → SqL K H a xs)
    (hs : ∀ (i : Nat) (x : V) (T : Addr) (σ : L2.St) (H : Hp), xs[i]? = some x → Pv i σ H → H T = none → g (.ref T) σ (upd H T (.tup [.int ((m0 + i : Nat) : Int), x])) fun σ2 H2 => tb { D with nx := Pv (i + 1), ct := Pv (i + 1), bk := D.nx } σ2 H2) (hd : ∀ σ H, Pv xs.length σ H → D.nx σ H) :
    ∃ W : Nat → Nat → L2.St → Hp → Prop, (∃ m, W 0 m σ H) ∧ ∀ i m σ H, W i m σ H →
      ((IteS K a m0).stop i H ∧ D.nx σ H) ∨ ((IteS K a m0).go i H ∧ ∃ N : L2.St → Hp → Prop, (∀ σ' H', N σ' H' → ∃ m', m' < m ∧ W (i + 1) m' σ' H') ∧ ∀ v H', (IteS K a m0).yld i H v H' → g v σ H' fun σ2 H2 => tb { D with nx := N, ct := N, bk := D.nx } σ2 H2) := by
  refine ⟨fun i m σ H => m = xs.length - i ∧ i ≤ xs.length ∧ Pv i σ H, ⟨xs.length, rfl, Nat.zero_le _, h0⟩, ?_⟩
  rintro i m σ H ⟨rfl, hi, p⟩
  have q := hq i σ H p
  by_cases hlt : i < xs.length
  · refine .inr ⟨⟨xs, xs[i], q, List.getElem?_eq_getElem hlt⟩, Pv (i + 1), fun σ' H' p' => ⟨xs.length - (i + 1), by omega, rfl, hlt, p'⟩, fun v H' hy => ?_⟩
    obtain ⟨T, x, rfl, nT, rfl, f⟩ := hy
    exact hs i x T σ H (f xs q) p nT
  · have e : i = xs.length := by omega
    subst e
    exact .inl ⟨⟨xs, q, Nat.le_refl _⟩, hd σ H p⟩
end OGX
set_option Elab.async false
set_option linter.all false
set_option maxRecDepth 100000
set_option maxHeartbeats 4000000
namespace L2
open PySem PySem.Spec PyProof.Rows
section
variable {prog : Program} {w : World} {A : Around} {E : Value → Shared → Prop} {s : Shared} {T : String} {r d : Addr} {n : Nat} {PP : Nat → Value → Prop} {OK : Heap → Prop}
theorem collect_kdl {Q : List Value → Shared → Prop} (K : PySem.W.KdlSrc prog w T r d n PP OK) (hh : A.handled = none) (hok : OK s.heap) (hlen : n ≤ sizeLine)
    (hQ : ∀ (h' : Heap) (tk : Nat) (acc : Array Value), (∀ b o, s.heap.get? b = some o → h'.get? b = some o) → ItemsOf PP acc n → Q acc.toList { s with heap := h', toks := tk }) :
    wpAny (model prog w) A (collect (.ref r)) Q E s := by
  unfold collect
  refine wpAny_bind (wpAny_runValue (codeAny_builtin F.entry_proto_collect ?_))
  rw [Around.under_plainId F.plain_proto_collect _]
  show wpAny _ A.in1 (newList [] >>= fun l => again (.builtin "list.__iadd__" ⟨[l, .ref r], []⟩)) _ _ s
  refine wpAny_bind (wpAny_newObj_type ?_)
  refine wpAny_pure ⟨plainId_quiet F.plain_list_iadd _, codeAny_builtin F.entry_list_iadd ?_⟩
  rw [Around.under_plainId F.plain_list_iadd _]
  show wpAny _ A.in1 (Builtin.List.listExtendWith (.ref s.heap.objs.size) (.ref r) (.ref s.heap.objs.size)) _ _ _
  have hS : (s.heap.push { cls := .type "list", data := .seq ([] : List Value).toArray }).get? s.heap.objs.size = some { cls := .type "list", data := .seq #[] 0 } := Heap.get?_push_size _ rfl
  have hlt := K.there _ hok
  refine wpAny_mono (PySem.W.kdl_extend (A := A) (R := fun rr s' => rr = .ok (.ret (.ref s.heap.objs.size)) ∧ ∃ (h' : Heap) (tk : Nat) (acc : Array Value) (c' : Nat), s' = { s with heap := h', toks := tk } ∧
      (∀ b o, s.heap.get? b = some o → h'.get? b = some o) ∧ h'.get? s.heap.objs.size = some { cls := .type "list", dict := none, data := .seq acc c', slots := #[] } ∧ ItemsOf PP acc n)
    (s := { s with heap := s.heap.push { cls := .type "list", data := .seq ([] : List Value).toArray } }) K hh (K.keep _ _ hok fun b _ o e => Heap.get?_push_of_some _ e) _ (Nat.ne_of_gt hlt.1) (Nat.ne_of_gt hlt.2) _ 0 hS
    (fun h' tk acc c' hk e hi => ⟨rfl, h', tk, acc, c', rfl, fun b o q => hk b o (Nat.ne_of_lt (Heap.lt_size q)) (Heap.get?_push_of_some _ q), e, hi⟩) hlen) (fun fin s' h => ?_) (fun e s' h => ?_)
  · cases fin with
    | done f =>
      obtain ⟨e, h', tk, acc, c', rfl, hk, hS', hi⟩ := h
      cases e
      show wpAny _ A (load s.heap.objs.size >>= _) _ _ _
      exact wpAny_bind (wpAny_load hS' (wpAny_pure (hQ h' tk acc hk hi)))
    | again c' =>
      refine ⟨h.1, codeAny_mono h.2 fun rr s'' hr' => ?_⟩
      obtain ⟨rfl, h', tk, acc, c', rfl, hk, hS', hi⟩ := hr'
      show wpAny _ A (load s.heap.objs.size >>= _) _ _ _
      exact wpAny_bind (wpAny_load hS' (wpAny_pure (hQ h' tk acc hk hi)))
  · exact absurd h.1 (by simp)
theorem code_tuple_new_kdl {Q₁ : Value → Shared → Prop} (K : PySem.W.KdlSrc prog w "dict" r d n PP OK) (hh : A.handled = none) (hok : OK s.heap) (hlen : n ≤ sizeLine)
    (h : ∀ (h' : Heap) (tk : Nat) (acc : Array Value), (∀ b o, s.heap.get? b = some o → h'.get? b = some o) → ItemsOf PP acc n →
      Q₁ (.ref h'.objs.size) { s with heap := h'.push { cls := .type "tuple", data := .seq acc }, toks := tk }) :
    codeAny (model prog w) A (.call (.builtin "tuple.__new__") ⟨[.type "tuple", .ref r], []⟩) (wants Q₁ E) s := by
  refine codeAny_of_tree ?_
  show wpAny _ A.in1 (do checkBuiltinCall "tuple.__new__" ⟨[.type "tuple", .ref r], []⟩; again (.builtin "tuple.__new__" ⟨[.type "tuple", .ref r], []⟩)) _ _ s
  refine wpAny_bind (wpAny_of_eq (F.newCall_tuple_1 _) (wpAny_pure ⟨plainId_quiet F.plain_tuple_new _, codeAny_builtin F.entry_tuple_new ?_⟩))
  rw [Around.under_plainId F.plain_tuple_new _]
  have hsub := sub_tuple_self
  have hinit := init_tuple_lookup
  have hmh := madeHere_tuple
  have hTI : s.TypeIs (.ref r) "dict" := K.type s hok
  have hh1 : A.in1.handled = none := hh
  wp_walk using wpAny_typeOf hTI, collect_kdl (A := A.in1) K hh1 hok hlen
  intro h' tk acc hk hacc
  show wpAny _ _ (Builtin.Tuple.tupleExact acc.toList.toArray >>= fun v => ret v) _ _ _
  unfold Builtin.Tuple.tupleExact
  refine wpAny_bind (wpAny_newObj_type ?_ (by show acc.toList.toArray.size ≤ sizeLine; simp only [Array.toArray_toList]; rw [hacc.1]; exact hlen))
  refine wpAny_pure ?_
  have e : acc.toList.toArray = acc := by simp
  rw [e]
  exact h h' tk acc hk hacc
theorem call_tuple_kdl {Q : Value → Shared → Prop} (K : PySem.W.KdlSrc prog w "dict" r d n PP OK) (hh : A.handled = none) (hok : OK s.heap) (hlen : n ≤ sizeLine)
    (hQ : ∀ (h' : Heap) (tk : Nat) (acc : Array Value), (∀ b o, s.heap.get? b = some o → h'.get? b = some o) → ItemsOf PP acc n →
      Q (.ref h'.objs.size) { s with heap := h'.push { cls := .type "tuple", data := .seq acc }, toks := tk }) :
    wpAny (model prog w) A (call (.type "tuple") [.ref r]) Q E s := by
  refine callType_codes (Q₁ := fun obj s₁ => s₁.TypeIs obj "tuple" ∧ Q obj s₁) F.called_tuple (F.typeCall_tuple_1 _) F.entry_object_init
    (code_tuple_new_kdl (A := A.in1) K hh hok hlen fun h' tk acc hk hacc => ⟨⟨_, Heap.get?_push_size _ rfl, rfl⟩, hQ h' tk acc hk hacc⟩) fun obj s₁ h₁ => ?_
  exact ⟨h₁.1, F.args_object_init_2 obj _, object_init_meets F.called_tuple.init.lookup F.called_tuple.made (by decide) prog w A.in1 _ s₁ ⟨h₁.1, rfl, h₁.2⟩⟩
end
def rTupleD : List V → Hp → VK → Prop := fun xs H Q => ∃ p kvs, xs = [.ref p] ∧ H p = some (.dK kvs) ∧ ∀ q, H q = none → Q (.ref q) (upd H q (.tup (kvs.map fun kv => kV kv.1)))
theorem call_tuple_dK {X : Cx} (hc : X.calm = true) : CallR X (.type "tuple") rTupleD := by
  intro pins s σ H xs us Q I r h
  obtain ⟨p, kvs, e, hk, q⟩ := h
  subst e
  obtain ⟨u, eu, rx⟩ := vals1 r
  subst eu
  obtain rfl : u = Value.ref p := rx
  obtain ⟨z, lo, vs, rk, hd⟩ := (show ObjOk X.prog X.w H s.heap p (.dK kvs) from I.hok p _ hk)
  obtain ⟨ep, hat⟩ := hd.dictAt
  have hl : kvs.length = vs.length := Paired.length rk
  refine call_tuple_kdl (PySem.W.kdl_dict (knd := mixKind X.prog X.w) (kvs := vs) (ep := ep) lo) (I.ok.hd hc) hat (by rw [← hl]; exact z) fun h' tk acc' hkeep hacc => ?_
  have I1 : Inv X pins σ H { s with heap := h', toks := tk } := I.kept (t' := tk) hkeep
  have hv : Vals (kvs.map fun kv => kV kv.1) acc'.toList := by
    have el : acc'.toList.length = acc'.size := by simp
    refine vals_of_at (by rw [List.length_map, el, hacc.1, hl]) fun j x w h1 h2 => ?_
    obtain ⟨k, y, hky, hi⟩ := hacc.2 j w (by rw [← Array.getElem?_toList]; exact h2)
    have e1 : (kvs.map (·.1))[j]? = some k := by
      rw [KV.keys rk, List.getElem?_map, hky] <;> rfl
    have e2 : (kvs.map fun kv => kV kv.1)[j]? = some (kV k) := by
      have e3 : (kvs.map fun kv => kV kv.1) = (kvs.map (·.1)).map kV := by rw [List.map_map] <;> rfl
      rw [e3, List.getElem?_map, e1] <;> rfl
    rw [e2] at h1
    cases h1
    exact keyIs_rel hi
  have I2 : Inv X pins σ (upd H h'.objs.size (.tup (kvs.map fun kv => kV kv.1))) { s with heap := h'.push { cls := .type "tuple", data := .seq acc' }, toks := tk } :=
    I1.laid (t' := tk) (fun b o e => Heap.get?_push_of_some _ e) (Nat.le_refl _) (show ObjOk X.prog X.w _ _ _ (.tup (kvs.map fun kv => kV kv.1)) from ⟨by rw [List.length_map]; exact z, acc'.toList, hv, by rw [Array.toArray_toList]; exact IsTup.new _ _⟩)
  exact ⟨.ref h'.objs.size, _, I2, rfl, q _ (I1.hok.fresh (Nat.le_refl _))⟩
/-- .. with the very object, which has no dict -/
def rTupleDF : List V → Hp → VK → Prop := fun xs H Q => ∃ p kvs, xs = [.ref p] ∧ H p = some (.dK kvs) ∧ ∀ q ob, H q = none → ob.dict = none → Q (.ref q) (upd H q (.frz ob (.tup (kvs.map fun kv => kV kv.1))))
theorem call_tuple_dKF {X : Cx} (hc : X.calm = true) : CallR X (.type "tuple") rTupleDF := by
  intro pins s σ H xs us Q I r h
  obtain ⟨p, kvs, e, hk, q⟩ := h
  subst e
  obtain ⟨u, eu, rx⟩ := vals1 r
  subst eu
  obtain rfl : u = Value.ref p := rx
  obtain ⟨z, lo, vs, rk, hd⟩ := (show ObjOk X.prog X.w H s.heap p (.dK kvs) from I.hok p _ hk)
  obtain ⟨ep, hat⟩ := hd.dictAt
  have hl : kvs.length = vs.length := Paired.length rk
  refine call_tuple_kdl (PySem.W.kdl_dict (knd := mixKind X.prog X.w) (kvs := vs) (ep := ep) lo) (I.ok.hd hc) hat (by rw [← hl]; exact z) fun h' tk acc' hkeep hacc => ?_
  have I1 : Inv X pins σ H { s with heap := h', toks := tk } := I.kept (t' := tk) hkeep
  have hv : Vals (kvs.map fun kv => kV kv.1) acc'.toList := by
    have el : acc'.toList.length = acc'.size := by simp
    refine vals_of_at (by rw [List.length_map, el, hacc.1, hl]) fun j x w h1 h2 => ?_
    obtain ⟨k, y, hky, hi⟩ := hacc.2 j w (by rw [← Array.getElem?_toList]; exact h2)
    have e1 : (kvs.map (·.1))[j]? = some k := by
      rw [KV.keys rk, List.getElem?_map, hky] <;> rfl
    have e2 : (kvs.map fun kv => kV kv.1)[j]? = some (kV k) := by
      have e3 : (kvs.map fun kv => kV kv.1) = (kvs.map (·.1)).map kV := by rw [List.map_map] <;> rfl
      rw [e3, List.getElem?_map, e1] <;> rfl
    rw [e2] at h1
    cases h1
    exact keyIs_rel hi
  have I2 : Inv X pins σ (upd H h'.objs.size (.frz { cls := .type "tuple", data := .seq acc' } (.tup (kvs.map fun kv => kV kv.1)))) { s with heap := h'.push { cls := .type "tuple", data := .seq acc' }, toks := tk } :=
    I1.laid (t' := tk) (fun b o e => Heap.get?_push_of_some _ e) (Nat.le_refl _) (show ObjOk X.prog X.w _ _ _ (.frz _ (.tup (kvs.map fun kv => kV kv.1))) from ⟨Heap.get?_push_size _ rfl, by rw [List.length_map]; exact z, acc'.toList, hv, by rw [Array.toArray_toList]; exact IsTup.new _ _⟩)
  exact ⟨.ref h'.objs.size, _, I2, rfl, q _ _ (I1.hok.fresh (Nat.le_refl _)) rfl⟩
end L2
set_option Elab.async false
set_option linter.all false
set_option maxRecDepth 100000
set_option maxHeartbeats 4000000
namespace OGX
open PySem PySem.Spec PyProof.Rows L2 LamX
section
variable {X : Cx} {pins : List (Addr × Obj)} {σ : L2.St} {H HZ : Hp} {s s1 : Shared}
/-- x() in the def that got the lambda, its slots told: what is let out is told of these very slots -/
theorem pe_actS {CXg : CXT} {Eg : XK} {Ng : List Str} {qg : Str} {sg : Scope} {g f c' : Addr} {cdg pm ctv : Value} {params : Arguments} {body : Expr} {scope : Scope} {k i : Nat} {a : Str} {pn : List (Addr × Obj)} {xe : Value → Shared → Prop} {W : WX} {E : XK} {tb : TE} {p1 p2 : Pos} {σ0 : L2.St}
    (I : Inv X pins σ H s) (L : LamS X.env.scope scope) (hf : s.heap.get? f = some (PySem.W.kla_obj "<lambda>" (X.env.qual ++ "<lambda>") params body scope (cloFrom X.env.cells scope.names []) pm c' ctv)) (hfn : H f = none) (hfr : f ∉ frs X.stack)
    (hbind : bindArgs (PySem.W.kla_fn "<lambda>" (X.env.qual ++ "<lambda>") params body scope (cloFrom X.env.cells scope.names []) pm (.ref c') ctv) ⟨[], []⟩ = pure [])
    (tk : Takes ((cxOf CXg X.prog X.w X.K X.mg X.base Ng qg sg g cdg X.A X.stack s H Eg).tr pn xe) W) (hW : ∀ cls d H', E cls d H' → W cls d σ0 H') (hr : Room (k + 1) (X.A.deeper (envOfC qg sg s.heap.objs.size g cdg)))
    (hbody : ∀ (A : Around) (outer : List Env) (s : Shared) (H : Hp), Room k (A.deeper (lamEnv X scope s.heap.objs.size f c')) → PE (lamCx X A outer s H E scope f c') body tb)
    (hN : Ng[i]? = some a) (hv : Vis sg a) (hd : (a == ("__debug__" : Str)) = false := by decide) (hcd : (a == ("__classdict__" : Str)) = false := by decide) :
    PE ((cxOf CXg X.prog X.w X.K X.mg X.base Ng qg sg g cdg X.A X.stack s H Eg).tr pn xe) (.Call (.Name a p1) [] [] p2)
      (fun σZ HZ Q => σZ = σ0 ∧ σZ[i]? = some (some (.ref f)) ∧ HZ c' = some (CodeO c' (X.env.qual ++ "<lambda>")) ∧ tb σ HZ Q) := by
  refine ⟨fun pinsZ sZ σZ HZ Q IZ h => ?_⟩
  obtain ⟨e0, hs, hc, ht⟩ := h
  subst e0
  refine wpAny_Call_Name_kw (thn ((pe_var (pos := p1) (i := i) hN hv hd hcd).run pinsZ sZ σZ HZ (fun v H1 => v = .ref f ∧ H1 = HZ) IZ ⟨.ref f, hs, rfl, rfl⟩) fun u s1 ⟨v, H1, I1, r1, q1⟩ => ?_)
  obtain ⟨ev, eH⟩ := q1
  subst ev
  rw [eH] at I1
  obtain rfl : u = Value.ref f := r1
  have of1 : s1.heap.get? f = some (PySem.W.kla_obj "<lambda>" (X.env.qual ++ "<lambda>") params body scope (cloFrom X.env.cells scope.names []) pm c' ctv) := I1.base.keep f _ hf hfn hfr (fun z => nomatch (show f ∈ ([] : List Addr) from z))
  refine PySem.W.callWith_F0 ⟨_, _, _, _, of1⟩ ?_
  have un : Un (frs X.stack) [] H HZ s.heap s1.heap := I1.base
  obtain ⟨⟨oc, vs, t, hoc, hdc, hvc⟩, _, _⟩ := I1.hok c' _ hc
  have rc : codeAny (model X.prog X.w) (X.A.deeper (envOfC qg sg s.heap.objs.size g cdg)) (.call (.ref f) ⟨[], []⟩) (CR (L2.CX X.prog X.w) (envOfC qg sg s.heap.objs.size g cdg :: X.stack) X.prog X.w HZ s1 Q E) s1 := by
    refine PySem.W.kla_callFunE hr.depth of1 rfl L.co L.gen rfl ⟨c', oc, vs, t, rfl, hoc, hdc, hvc⟩ ?_
    rw [hbind]
    refine wpAny_pure (wpAny_newFunctionEnv (fun y hy => (L.own y hy).2) (fun y hy => absurd hy (by simp)) (fun h₁ hns hsb => ⟨I1.nolimit.fresh _ hsb, ?_⟩) L.kind)
    show codeAny _ _ (.expr body (lamEnv X scope s1.heap.objs.size f c')) _ _
    have kp : ∀ b o, s1.heap.get? b = some o → h₁.get? b = some o := fun b o e => hsb.extBut b o (Nat.ne_of_lt (Heap.lt_size e)) (Heap.get?_push_of_some _ e)
    have J : Inv (lamCx X (X.A.deeper (envOfC qg sg s.heap.objs.size g cdg)) (envOfC qg sg s.heap.objs.size g cdg :: X.stack) s1 HZ E scope f c') [] σ HZ { s1 with heap := h₁, toks := s1.toks + ([] : List (Str × Value)).length } :=
      lam_start2 I L I1.env0 hr.hd un hns kp
    refine PySem.W.kla_codeExpr (wpAny_mono ((hbody _ _ s1 HZ (hr.deeper _)).run [] _ _ HZ Q J ht) (fun v s' hq => ?_) fun e s' hq => hq)
    obtain ⟨w', H', J', rv, q⟩ := hq
    exact ⟨w', H', J'.os, J'.bare, J'.base, J'.hok, rv, q⟩
  refine wpAny_call (codeAny_mono rc fun r s' hq => ?_)
  cases r with
  | error e => exact tk e s' (XE.of_call I1 hW hq)
  | ok fl =>
    cases fl with
    | ret u => exact I1.after hq
    | next => exact False.elim hq
    | brk => exact False.elim hq
    | cont => exact False.elim hq
end
def GivesToS (X : Cx) (Ng : List Str) (x : Str) (sg : Scope) (g : Addr) (cdg : Value) (bg : List Stmt) (a : Str) (q : Str) (TT : (XK → Hp → VK → Prop) → Hp → VK → Prop) : Prop :=
  ∀ (f c' : Addr) (s : Shared) (H : Hp) (Q : VK) (tl : XK → Hp → VK → Prop),
    (∀ (W : WX) (pn : List (Addr × Obj)) (xe : Value → Shared → Prop) (E : XK) (σ0 : L2.St) (p1 p2 : Pos), Takes ((cxOf C8.CX0 X.prog X.w X.K X.mg X.base Ng x sg g cdg X.A X.stack s H C8.E0).tr pn xe) W → (∀ cls d H', E cls d H' → W cls d σ0 H') →
      PE ((cxOf C8.CX0 X.prog X.w X.K X.mg X.base Ng x sg g cdg X.A X.stack s H C8.E0).tr pn xe) (.Call (.Name a p1) [] [] p2) (fun σZ HZ Q => σZ = σ0 ∧ σZ[0]? = some (some (.ref f)) ∧ HZ c' = some (CodeO c' q) ∧ tl E HZ Q)) →
    H c' = some (CodeO c' q) → TT tl H Q →
    ∃ t, PSs (cxOf C8.CX0 X.prog X.w X.K X.mg X.base Ng x sg g cdg X.A X.stack s H C8.E0).nox bg t ∧ t { nx := fun _ H' => Q .non H', rt := Q } (L2.start Ng [.ref f]) H
section
variable {X : Cx}
/-- x(lambda: body) -/
theorem pe_lamcallS {T : List (Addr × Str)} {TT : (XK → Hp → VK → Prop) → Hp → VK → Prop} {x a : Str} {g c P : Addr} {k : Nat} {pg : Arguments} {bg : List Stmt} {sg : Scope} {dV kV doc pm cdv ct oc : Value} {an od : Option Addr} {osl : Array (Option Value)} {Ng : List Str}
    {params : Arguments} {body : Expr} {scope : Scope} {t : XK → TE} {p lpos pos : Pos} (hg : Gl X x) (hm : X.mg x = some (.ref g)) (hk : PySem.W.keepIn X.K (.ref g) = true)
    (lk : X.K.lookup g = some ⟨oc, od, .func (PySem.W.fnOf x x pg bg sg dV kV doc pm an cdv ct), osl⟩) (hcg : PySem.W.codeIn X.K cdv x = true) (hb : L2.Binds X.K (PySem.W.fnOf x x pg bg sg dV kV doc pm an cdv ct) [a] []) (Sg : FnScope Ng [a] sg) (hNg : Ng[0]? = some a) (hva : Vis sg a)
    (hG : GivesToS X Ng x sg g cdv bg a (X.env.qual ++ "<lambda>") TT)
    (TB : TabB X.base X.mg c P) (hcode : X.env.code = .ref c) (hmT : (P, X.env.qual ++ "<lambda>") ∈ T) (hu : ∀ p ∈ T, p.1 = P → p.2 = X.env.qual ++ "<lambda>") (hr : Room (k + 2) X.A) (L : LamS X.env.scope scope) (hdef : defaultsOf params X.env = ([], []))
    (hbind : ∀ (q : Str) (cl : List (Str × Addr)) (pm cv ctv : Value), bindArgs (PySem.W.kla_fn "<lambda>" q params body scope cl pm cv ctv) ⟨[], []⟩ = pure [])
    (hbody : ∀ (A : Around) (outer : List Env) (s : Shared) (H : Hp) (E : XK) (f c' : Addr), Room k (A.deeper (lamEnv X scope s.heap.objs.size f c')) → PE (lamCx X A outer s H E scope f c') body (t E))
    (hdb : (x == ("__debug__" : Str)) = false := by decide) (hd : (a == ("__debug__" : Str)) = false := by decide) (hcd : (a == ("__classdict__" : Str)) = false := by decide) :
    PE X (.Call (.Name x p) [.Lambda params body scope lpos] [] pos) (tLam T TT t) := by
  refine ⟨fun pins s σ H Q I h => ?_⟩
  obtain ⟨hT, h⟩ := h
  refine wpAny_Call_Name_kw (ld_glob I hg hm ?_ hdb)
  refine PySem.W.callWith_K (h₀ := X.base) I.ok.mod.kin hk ?_ (by rfl) (by rfl)
  show wpAny _ _ (spliced ((false, eval (.Lambda params body scope lpos) X.env) :: backTo pos (starEach [] X.env))) _ _ s
  refine Calls.spliced_cons (lam_make2 I TB hcode hmT hu hT hdef (L.has I.ok) fun f c' pm' ctv H1 s' I1 eN T1 hf hfn hfr hco => ?_)
  refine Calls.spliced_nil ⟨I1.kIn, ?_⟩
  have rc : codeAny (model X.prog X.w) X.A (.call (.ref g) ⟨[.ref f], []⟩) (CR C8.CX0 X.stack X.prog X.w H1 s' Q C8.E0) s' := by
    refine run_ofS (N := Ng) (ps := [a]) (us := [.ref f]) (vs := [.ref f]) lk hcg Sg hr I1.env0 (hb s' [.ref f] I1.kIn rfl) (.cons rfl .nil) rfl fun hr' => ?_
    obtain ⟨t', ht', hq'⟩ := hG f c' s' H1 Q (fun E H' Q' => t E σ H' Q') (fun W pn xe E σ0 p1 p2 tk hW => pe_actS (i := 0) I1 L hf hfn hfr (hbind _ _ _ _ _) tk hW hr' (fun A outer s H hr2 => hbody A outer s H E f c' hr2) hNg hva hd hcd) hco (h H1 eN T1)
    exact ⟨t', ht'.nox, hq'⟩
  refine wpAny_call (codeAny_mono rc fun r s2 hq => ?_)
  cases r with
  | error e => exact (show False from hq).elim
  | ok fl =>
    cases fl with
    | ret u => exact I1.after hq
    | next => exact False.elim hq
    | brk => exact False.elim hq
    | cont => exact False.elim hq
end
end OGX
set_option Elab.async false
set_option linter.all false
set_option maxRecDepth 100000
set_option maxHeartbeats 4000000
namespace OGX
open PySem PySem.Spec PyProof.Rows L2 LamX
/-! a lambda handed through two calls -/
theorem un_in {fs : List Addr} {l : Addr} {H H1 H2 : Hp} {h h1 h2 : Heap} (a : Un fs [] H H1 h h1) (b : Un (l :: fs) [] H1 H2 h1 h2) (hl : h.objs.size ≤ l) : Un fs [] H H2 h h2 where
  keep := fun c ob q n hc hx => b.keep c ob (a.keep c ob q n hc hx) (a.free c ob q n hx) (fun z => by
    rcases List.mem_cons.mp z with z | z
    · rw [z] at q
      exact Nat.lt_irrefl _ (Nat.lt_of_lt_of_le (Heap.lt_size q) hl)
    · exact hc z) hx
  slot := fun c ob q n hc hx => by
    obtain ⟨sl, e1⟩ := a.slot c ob q n hc hx
    obtain ⟨sl', e2⟩ := b.any e1 (a.free c ob q n hx) hx
    exact ⟨sl', e2⟩
  free := fun c ob q n hx => by
    obtain ⟨o', e1⟩ := a.there c ob q hx
    exact b.free c o' e1 (a.free c ob q n hx) hx
  there := fun c ob q hx => by
    obtain ⟨o', e1⟩ := a.there c ob q hx
    exact b.there c o' e1 hx
  tups := fun c xs q => b.tups c xs (a.tups c xs q)
  frzs := fun c ob xs q => b.frzs c ob xs (a.frzs c ob xs q)
  tbls := fun c ps q => by
    obtain ⟨m1, e1⟩ := a.tbls c ps q
    obtain ⟨m2, e2⟩ := b.tbls c _ e1
    exact ⟨m1 ++ m2, by rw [e2, Array.append_assoc]⟩
/-- all states of a context lie behind this one of the maker's -/
def Reach (X : Cx) (H : Hp) (s : Shared) (Z : Cx) : Prop := ∀ (pn : List (Addr × Obj)) (xe : Value → Shared → Prop) (pinsZ : List (Addr × Obj)) (σZ : L2.St) (HZ : Hp) (sZ : Shared), Inv (Z.tr pn xe) pinsZ σZ HZ sZ → Un (frs X.stack) [] H HZ s.heap sZ.heap
theorem reach1 {CXg : CXT} {X : Cx} {Ng : List Str} {qg : Str} {sg : Scope} {g : Addr} {cdg : Value} {s : Shared} {H : Hp} {Eg : XK} : Reach X H s (cxOf CXg X.prog X.w X.K X.mg X.base Ng qg sg g cdg X.A X.stack s H Eg) := fun _ _ _ _ _ _ I => I.base
theorem reach2 {CXh : CXT} {X : Cx} {P : Program} {w : World} {K : PySem.W.Frag} {mg : Str → Option Value} {base : Heap} {Nh : List Str} {qg qh : Str} {sg sh : Scope} {g gh : Addr} {cdg cdh : Value} {Ah : Around} {outer : List Env} {s s0 s1 : Shared} {H0 H1 : Hp} {Eh : XK}
    (hs : X.stack = outer) (un : Un (frs X.stack) [] H0 H1 s0.heap s1.heap) (hl : s0.heap.objs.size ≤ s.heap.objs.size) : Reach X H0 s0 (cxOf CXh P w K mg base Nh qh sh gh cdh Ah (envOfC qg sg s.heap.objs.size g cdg :: outer) s1 H1 Eh) := fun _ _ _ _ _ _ I => by
  have b : Un (frs (envOfC qg sg s.heap.objs.size g cdg :: outer)) [] H1 _ s1.heap _ := I.base
  have e : frs (envOfC qg sg s.heap.objs.size g cdg :: outer) = s.heap.objs.size :: frs outer := rfl
  rw [e, ← hs] at b
  exact un_in un b hl
section
variable {X : Cx} {pins : List (Addr × Obj)} {σ : L2.St} {H HZ : Hp} {s s1 : Shared}
/-- x() in a def, however deep, that got the lambda -/
theorem pe_actR {CXg : CXT} {Eg : XK} {Ng : List Str} {qg : Str} {sg : Scope} {g f c' : Addr} {cdg pm ctv : Value} {params : Arguments} {body : Expr} {scope : Scope} {k i : Nat} {a : Str} {pn : List (Addr × Obj)} {xe : Value → Shared → Prop} {W : WX} {E : XK} {tb : TE} {p1 p2 : Pos} {σ0 : L2.St} {Az : Around} {oz : List Env} {sz : Shared} {Hz : Hp}
    (I : Inv X pins σ H s) (L : LamS X.env.scope scope) (hf : s.heap.get? f = some (PySem.W.kla_obj "<lambda>" (X.env.qual ++ "<lambda>") params body scope (cloFrom X.env.cells scope.names []) pm c' ctv)) (hfn : H f = none) (hfr : f ∉ frs X.stack)
    (hbind : bindArgs (PySem.W.kla_fn "<lambda>" (X.env.qual ++ "<lambda>") params body scope (cloFrom X.env.cells scope.names []) pm (.ref c') ctv) ⟨[], []⟩ = pure [])
    (re : Reach X H s (cxOf CXg X.prog X.w X.K X.mg X.base Ng qg sg g cdg Az oz sz Hz Eg))
    (tk : Takes ((cxOf CXg X.prog X.w X.K X.mg X.base Ng qg sg g cdg Az oz sz Hz Eg).tr pn xe) W) (hW : ∀ cls d H', E cls d H' → W cls d σ0 H') (hr : Room (k + 1) (Az.deeper (envOfC qg sg sz.heap.objs.size g cdg)))
    (hbody : ∀ (A : Around) (outer : List Env) (s : Shared) (H : Hp), Room k (A.deeper (lamEnv X scope s.heap.objs.size f c')) → PE (lamCx X A outer s H E scope f c') body tb)
    (hN : Ng[i]? = some a) (hv : Vis sg a) (hd : (a == ("__debug__" : Str)) = false := by decide) (hcd : (a == ("__classdict__" : Str)) = false := by decide) :
    PE ((cxOf CXg X.prog X.w X.K X.mg X.base Ng qg sg g cdg Az oz sz Hz Eg).tr pn xe) (.Call (.Name a p1) [] [] p2)
      (fun σZ HZ Q => σZ = σ0 ∧ σZ[i]? = some (some (.ref f)) ∧ HZ c' = some (CodeO c' (X.env.qual ++ "<lambda>")) ∧ tb σ HZ Q) := by
  refine ⟨fun pinsZ sZ σZ HZ Q IZ h => ?_⟩
  obtain ⟨e0, hs, hc, ht⟩ := h
  subst e0
  refine wpAny_Call_Name_kw (thn ((pe_var (pos := p1) (i := i) hN hv hd hcd).run pinsZ sZ σZ HZ (fun v H1 => v = .ref f ∧ H1 = HZ) IZ ⟨.ref f, hs, rfl, rfl⟩) fun u s1 ⟨v, H1, I1, r1, q1⟩ => ?_)
  obtain ⟨ev, eH⟩ := q1
  subst ev
  rw [eH] at I1
  obtain rfl : u = Value.ref f := r1
  have un : Un (frs X.stack) [] H HZ s.heap s1.heap := re _ _ _ _ _ _ I1
  have of1 : s1.heap.get? f = some (PySem.W.kla_obj "<lambda>" (X.env.qual ++ "<lambda>") params body scope (cloFrom X.env.cells scope.names []) pm c' ctv) := un.keep f _ hf hfn hfr (fun z => nomatch (show f ∈ ([] : List Addr) from z))
  refine PySem.W.callWith_F0 ⟨_, _, _, _, of1⟩ ?_
  obtain ⟨⟨oc, vs, t, hoc, hdc, hvc⟩, _, _⟩ := I1.hok c' _ hc
  have rc : codeAny (model X.prog X.w) (Az.deeper (envOfC qg sg sz.heap.objs.size g cdg)) (.call (.ref f) ⟨[], []⟩) (CR (L2.CX X.prog X.w) (envOfC qg sg sz.heap.objs.size g cdg :: oz) X.prog X.w HZ s1 Q E) s1 := by
    refine PySem.W.kla_callFunE hr.depth of1 rfl L.co L.gen rfl ⟨c', oc, vs, t, rfl, hoc, hdc, hvc⟩ ?_
    rw [hbind]
    refine wpAny_pure (wpAny_newFunctionEnv (fun y hy => (L.own y hy).2) (fun y hy => absurd hy (by simp)) (fun h₁ hns hsb => ⟨I1.nolimit.fresh _ hsb, ?_⟩) L.kind)
    show codeAny _ _ (.expr body (lamEnv X scope s1.heap.objs.size f c')) _ _
    have kp : ∀ b o, s1.heap.get? b = some o → h₁.get? b = some o := fun b o e => hsb.extBut b o (Nat.ne_of_lt (Heap.lt_size e)) (Heap.get?_push_of_some _ e)
    have J : Inv (lamCx X (Az.deeper (envOfC qg sg sz.heap.objs.size g cdg)) (envOfC qg sg sz.heap.objs.size g cdg :: oz) s1 HZ E scope f c') [] σ HZ { s1 with heap := h₁, toks := s1.toks + ([] : List (Str × Value)).length } :=
      lam_start2 I L I1.env0 hr.hd un hns kp
    refine PySem.W.kla_codeExpr (wpAny_mono ((hbody _ _ s1 HZ (hr.deeper _)).run [] _ _ HZ Q J ht) (fun v s' hq => ?_) fun e s' hq => hq)
    obtain ⟨w', H', J', rv, q⟩ := hq
    exact ⟨w', H', J'.os, J'.bare, J'.base, J'.hok, rv, q⟩
  refine wpAny_call (codeAny_mono rc fun r s' hq => ?_)
  cases r with
  | error e => exact tk e s' (XE.of_call I1 hW hq)
  | ok fl =>
    cases fl with
    | ret u => exact I1.after hq
    | next => exact False.elim hq
    | brk => exact False.elim hq
    | cont => exact False.elim hq
end
/-- the def that calls what it got, entered from anywhere -/
def GivesToA (P : Program) (w : World) (K : PySem.W.Frag) (mg : Str → Option Value) (base : Heap) (Ng : List Str) (x : Str) (sg : Scope) (g : Addr) (cdg : Value) (bg : List Stmt) (a : Str) (q : Str) (TT : (XK → Hp → VK → Prop) → Hp → VK → Prop) : Prop :=
  ∀ (A : Around) (outer : List Env) (f c' : Addr) (s : Shared) (H : Hp) (Q : VK) (tl : XK → Hp → VK → Prop),
    (∀ (W : WX) (pn : List (Addr × Obj)) (xe : Value → Shared → Prop) (E : XK) (σ0 : L2.St) (p1 p2 : Pos), Takes ((cxOf C8.CX0 P w K mg base Ng x sg g cdg A outer s H C8.E0).tr pn xe) W → (∀ cls d H', E cls d H' → W cls d σ0 H') →
      PE ((cxOf C8.CX0 P w K mg base Ng x sg g cdg A outer s H C8.E0).tr pn xe) (.Call (.Name a p1) [] [] p2) (fun σZ HZ Q => σZ = σ0 ∧ σZ[0]? = some (some (.ref f)) ∧ HZ c' = some (CodeO c' q) ∧ tl E HZ Q)) →
    H c' = some (CodeO c' q) → TT tl H Q →
    ∃ t, PSs (cxOf C8.CX0 P w K mg base Ng x sg g cdg A outer s H C8.E0).nox bg t ∧ t { nx := fun _ H' => Q .non H', rt := Q } (L2.start Ng [.ref f]) H
theorem GivesToA.here {X : Cx} {Ng : List Str} {x : Str} {sg : Scope} {g : Addr} {cdg : Value} {bg : List Stmt} {a q : Str} {TT : (XK → Hp → VK → Prop) → Hp → VK → Prop} (h : GivesToA X.prog X.w X.K X.mg X.base Ng x sg g cdg bg a q TT) : GivesToS X Ng x sg g cdg bg a q TT := fun f c' s H Q tl => h X.A X.stack f c' s H Q tl
/-- the def that hands what it got to another one: x(a) told -/
def Hands (kk : Nat) (P : Program) (w : World) (K : PySem.W.Frag) (mg : Str → Option Value) (base : Heap) (Ng : List Str) (x : Str) (sg : Scope) (g : Addr) (cdg : Value) (bg : List Stmt) (y a : Str) (q : Str) (T1 : (XK → Hp → VK → Prop) → Hp → VK → Prop) (TT : (XK → Hp → VK → Prop) → List V → Hp → VK → Prop) : Prop :=
  ∀ (A : Around) (outer : List Env) (f c' : Addr) (s : Shared) (H : Hp) (vs : List V) (Q : VK) (tl : XK → Hp → VK → Prop), A.guards = some [] → Room kk (A.deeper (envOfC x sg s.heap.objs.size g cdg)) →
    (∀ (p1 p2 p3 : Pos), PE (cxOf C8.CX0 P w K mg base Ng x sg g cdg A outer s H C8.E0).nox (.Call (.Name y p1) [.Name a p2] [] p3) (fun σY HY Q => σY[0]? = some (some (.ref f)) ∧ HY c' = some (CodeO c' q) ∧ T1 tl HY Q)) →
    H c' = some (CodeO c' q) → TT tl vs H Q →
    ∃ t, PSs (cxOf C8.CX0 P w K mg base Ng x sg g cdg A outer s H C8.E0).nox bg t ∧ t { nx := fun _ H' => Q .non H', rt := Q } (L2.start Ng (.ref f :: vs)) H
/-- slots, the table, the code's address -/
def tLam2 (T : List (Addr × Str)) (q : Str) (TT : (XK → Hp → VK → Prop) → List V → Hp → VK → Prop) (t : XK → TE) (ta : TA) : TE := fun σ H Q => Tabs T H ∧ ∀ H1 c', ExtN H H1 → Tabs T H1 → H1 c' = some (CodeO c' q) →
  ta σ H1 (fun vs H2 => H2 c' = some (CodeO c' q) ∧ TT (fun E H' Q' => t E σ H' Q') vs H2 Q)
section
variable {X : Cx}
/-- x(lambda: body, e, ..), where x hands the lambda to y -/
theorem pe_lamhand {T : List (Addr × Str)} {T1 : (XK → Hp → VK → Prop) → Hp → VK → Prop} {TT : (XK → Hp → VK → Prop) → List V → Hp → VK → Prop} {x y a b : Str} {g gy c P : Addr} {k : Nat} {pg py : Arguments} {bg by_ : List Stmt} {sg sy : Scope} {dV kV doc pm cdv ct oc dVy kVy docy pmy cdy cty ocy : Value} {an od any ody : Option Addr} {osl osly : Array (Option Value)} {Ng Ny : List Str} {pss : List Str}
    {params : Arguments} {body : Expr} {scope : Scope} {es : List Expr} {t : XK → TE} {ta : TA} {p lpos pos : Pos} (hg : Gl X x) (hm : X.mg x = some (.ref g)) (hk : PySem.W.keepIn X.K (.ref g) = true)
    (lk : X.K.lookup g = some ⟨oc, od, .func (PySem.W.fnOf x x pg bg sg dV kV doc pm an cdv ct), osl⟩) (hcg : PySem.W.codeIn X.K cdv x = true) (hb : L2.Binds X.K (PySem.W.fnOf x x pg bg sg dV kV doc pm an cdv ct) (b :: pss) []) (Sg : FnScope Ng (b :: pss) sg) (hNg : Ng[0]? = some b) (hva : Vis sg b)
    (hG : Hands (k + 2) X.prog X.w X.K X.mg X.base Ng x sg g cdv bg y b (X.env.qual ++ "<lambda>") T1 TT)
    (hl : ∀ tl vs H Q, TT tl vs H Q → vs.length = pss.length)
    (hgy : sg.names.lookup y = some .globalImplicit) (hmy : X.mg y = some (.ref gy)) (hky : PySem.W.keepIn X.K (.ref gy) = true)
    (lky : X.K.lookup gy = some ⟨ocy, ody, .func (PySem.W.fnOf y y py by_ sy dVy kVy docy pmy any cdy cty), osly⟩) (hcy : PySem.W.codeIn X.K cdy y = true) (hby : L2.Binds X.K (PySem.W.fnOf y y py by_ sy dVy kVy docy pmy any cdy cty) [a] []) (Sy : FnScope Ny [a] sy) (hNy : Ny[0]? = some a) (hvy : Vis sy a)
    (hGy : GivesToA X.prog X.w X.K X.mg X.base Ny y sy gy cdy by_ a (X.env.qual ++ "<lambda>") T1)
    (TB : TabB X.base X.mg c P) (hcode : X.env.code = .ref c) (hmT : (P, X.env.qual ++ "<lambda>") ∈ T) (hu : ∀ p ∈ T, p.1 = P → p.2 = X.env.qual ++ "<lambda>") (hr : Room (k + 3) X.A) (L : LamS X.env.scope scope) (hdef : defaultsOf params X.env = ([], []))
    (hbind : ∀ (q : Str) (cl : List (Str × Addr)) (pm cv ctv : Value), bindArgs (PySem.W.kla_fn "<lambda>" q params body scope cl pm cv ctv) ⟨[], []⟩ = pure [])
    (hbody : ∀ (A : Around) (outer : List Env) (s : Shared) (H : Hp) (E : XK) (f c' : Addr), Room k (A.deeper (lamEnv X scope s.heap.objs.size f c')) → PE (lamCx X A outer s H E scope f c') body (t E))
    (hes : PA X es ta) (hgu : X.A.guards = some [])
    (hdb : (x == ("__debug__" : Str)) = false := by decide) (hdy : (y == ("__debug__" : Str)) = false := by decide) (hd : (a == ("__debug__" : Str)) = false := by decide) (hcd : (a == ("__classdict__" : Str)) = false := by decide) (hd2 : (b == ("__debug__" : Str)) = false := by decide) (hcd2 : (b == ("__classdict__" : Str)) = false := by decide)
    (hse : starEach (.Lambda params body scope lpos :: es) X.env = (false, eval (.Lambda params body scope lpos) X.env) :: starEach es X.env := by rfl) (hpl : (backTo pos (starEach es X.env)).any (·.1) = false := by rfl) :
    PE X (.Call (.Name x p) (.Lambda params body scope lpos :: es) [] pos) (tLam2 T (X.env.qual ++ "<lambda>") TT t ta) := by
  refine ⟨fun pins s σ H Q I h => ?_⟩
  obtain ⟨hT, h⟩ := h
  refine wpAny_Call_Name_kw (ld_glob I hg hm ?_ hdb)
  refine PySem.W.callWith_K (h₀ := X.base) I.ok.mod.kin hk ?_ hse hpl
  rw [hse]
  show wpAny _ _ (spliced ((false, eval (.Lambda params body scope lpos) X.env) :: backTo pos (starEach es X.env))) _ _ s
  refine Calls.spliced_cons (lam_make2 I TB hcode hmT hu hT hdef (L.has I.ok) fun f c' pm' ctv H1 s' I1 eN T1' hf hfn hfr hco => ?_)
  have nfL : f ≠ X.env.locals ∧ f ∉ X.fs := by
    refine ⟨fun z => ?_, fun z => hfr ?_⟩
    · obtain ⟨m, hn, _⟩ := I1.loc
      obtain ⟨ob, es', ep, ho, r⟩ := hn
      rw [z] at hf
      rw [ho] at hf
      have := congrArg Obj.data (Option.some.inj hf)
      rw [r.1] at this
      cases this
    · rcases I1.ok.stk with e | ⟨e, e2⟩
      · rw [e]
        exact z
      · rw [e]
        unfold frs at z ⊢
        rw [List.filterMap_cons, e2]
        exact List.mem_cons_of_mem _ z
  have Ip : Inv X ((f, PySem.W.kla_obj "<lambda>" (X.env.qual ++ "<lambda>") params body scope (cloFrom X.env.cells scope.names []) pm' c' ctv) :: pins) σ H1 s' := I1.pins_of fun p hp => by
    rcases List.mem_cons.mp hp with rfl | hp
    · exact ⟨hf, hfn, nfL.1, nfL.2, fun v z => by simp [PySem.W.kla_obj] at z⟩
    · exact I1.pin p (List.mem_append_right _ hp)
  refine thn (hes.run pos _ s' σ H1 _ Ip (h H1 c' eN T1' hco)) fun us s2 ⟨vs, H2, J, r, hc2, q⟩ => ?_
  obtain ⟨hf2, hfn2, _⟩ := J.pin _ (List.mem_append_right _ List.mem_cons_self)
  have I2 : Inv X pins σ H2 s2 := J.pins_of fun p hp => J.pin p (List.mem_append_right _ (List.mem_cons_of_mem _ hp))
  refine ⟨I2.kIn, ?_⟩
  have rc : codeAny (model X.prog X.w) X.A (.call (.ref g) ⟨.ref f :: us, []⟩) (CR C8.CX0 X.stack X.prog X.w H2 s2 Q C8.E0) s2 := by
    refine run_ofS (N := Ng) (ps := b :: pss) (us := .ref f :: us) (vs := .ref f :: vs) lk hcg Sg hr I2.env0 (by
        have hb' := hb s2 (.ref f :: us) I2.kIn (by rw [List.append_nil, List.length_cons, ← r.length, hl _ _ _ _ q]; rfl)
        rwa [List.append_nil] at hb') (.cons rfl r) (by rw [List.length_cons, hl _ _ _ _ q, List.length_cons]) fun hr' => ?_
    have hpass : ∀ (p1 p2 p3 : Pos), PE (cxOf C8.CX0 X.prog X.w X.K X.mg X.base Ng x sg g cdv X.A X.stack s2 H2 C8.E0).nox (.Call (.Name y p1) [.Name b p2] [] p3) (fun σY HY Q => σY[0]? = some (some (.ref f)) ∧ HY c' = some (CodeO c' (X.env.qual ++ "<lambda>")) ∧ T1 (fun E H' Q' => t E σ H' Q') HY Q) := by
      intro p1 p2 p3
      refine ⟨fun pinsY sY σY HY QY IY hY => ?_⟩
      obtain ⟨y1, y2, y3⟩ := hY
      have hgl : Gl (cxOf C8.CX0 X.prog X.w X.K X.mg X.base Ng x sg g cdv X.A X.stack s2 H2 C8.E0).nox y := hgy
      refine wpAny_Call_Name_kw (ld_glob IY hgl hmy ?_ hdy)
      have pa : PA (cxOf C8.CX0 X.prog X.w X.K X.mg X.base Ng x sg g cdv X.A X.stack s2 H2 C8.E0).nox [.Name b p2] _ := pa_cons (pe_var (pos := p2) (i := 0) hNg hva hd2 hcd2) pa_nil
      refine PySem.W.callWith_K (h₀ := X.base) IY.ok.mod.kin hky (thn (pa.run p3 pinsY sY σY HY (fun vs H1 => vs = [.ref f] ∧ H1 = HY) IY ⟨.ref f, y1, rfl, rfl⟩) fun us1 s3 ⟨vs1, H3, I3, r3, q3⟩ => ?_) (by rfl) (by rfl)
      obtain ⟨e1, e2⟩ := q3
      subst e1
      rw [e2] at I3
      refine ⟨I3.kIn, ?_⟩
      have un : Un (frs X.stack) [] H2 HY s2.heap s3.heap := I3.base
      have rc2 : codeAny (model X.prog X.w) (X.A.deeper (envOfC x sg s2.heap.objs.size g cdv)) (.call (.ref gy) ⟨us1, []⟩) (CR C8.CX0 (envOfC x sg s2.heap.objs.size g cdv :: X.stack) X.prog X.w HY s3 QY C8.E0) s3 := by
        refine run_ofS (N := Ny) (ps := [a]) (us := us1) (vs := [.ref f]) lky hcy Sy hr' I3.env0 (by
          have hb' := hby s3 us1 I3.kIn (by rw [List.append_nil, ← r3.length]; rfl)
          rwa [List.append_nil] at hb') r3 rfl fun hr2 => ?_
        obtain ⟨t', ht', hq'⟩ := hGy (X.A.deeper (envOfC x sg s2.heap.objs.size g cdv)) (envOfC x sg s2.heap.objs.size g cdv :: X.stack) f c' s3 HY QY (fun E H' Q' => t E σ H' Q') (fun W pn xe E σ0 p1 p2 tk hW => pe_actR (i := 0) I2 L hf2 hfn2 hfr (hbind _ _ _ _ _) (reach2 rfl un (Nat.le_refl _)) tk hW hr2 (fun A outer s H hr3 => hbody A outer s H E f c' hr3) hNy hvy hd hcd) y2 y3
        exact ⟨t', ht'.nox, hq'⟩
      refine wpAny_call (codeAny_mono rc2 fun r s4 hq => ?_)
      cases r with
      | error e => exact (show False from hq).elim
      | ok fl =>
        cases fl with
        | ret u => exact I3.after hq
        | next => exact False.elim hq
        | brk => exact False.elim hq
        | cont => exact False.elim hq
    obtain ⟨t', ht', hq'⟩ := hG X.A X.stack f c' s2 H2 vs Q (fun E H' Q' => t E σ H' Q') hgu hr' hpass hc2 q
    exact ⟨t', ht'.nox, hq'⟩
  refine wpAny_call (codeAny_mono rc fun r s3 hq => ?_)
  cases r with
  | error e => exact (show False from hq).elim
  | ok fl =>
    cases fl with
    | ret u => exact I2.after hq
    | next => exact False.elim hq
    | brk => exact False.elim hq
    | cont => exact False.elim hq
end
section
variable {P : Program} {w : World} {K : PySem.W.Frag} {mg : Str → Option Value} {base : Heap}
theorem fnG_of {k : Nat} {f : Addr} {name qual : Str} {params : Arguments} {body : List Stmt} {scope : Scope} {dV kV doc pm cdv ct oc : Value} {an od : Option Addr} {osl : Array (Option Value)} {N ps : List Str} {sp : Sp}
    (lk : K.lookup f = some ⟨oc, od, .func (PySem.W.fnOf name qual params body scope dV kV doc pm an cdv ct), osl⟩) (hcd : PySem.W.codeIn K cdv qual = true) (S : FnScope N ps scope) (len : ∀ vs H Q E, sp vs H Q E → vs.length = ps.length)
    (hbody : ∀ (A : Around) (outer : List Env) (s : Shared) (H : Hp) (vs : List V) (Q : VK) (E : XK), A.guards = some [] → Room k (A.deeper (envOfC qual scope s.heap.objs.size f cdv)) → sp vs H Q E →
      ∃ t, PSs (cxOf L2.CX0 P w K mg base N qual scope f cdv A outer s H E).nox body t ∧ t { nx := fun _ H' => Q .non H', rt := Q } (L2.start N vs) H) :
    FnG P w K mg base (k + 1) f (PySem.W.fnOf name qual params body scope dV kV doc pm an cdv ct) ps sp := by
  refine ⟨len, fun A outer s H args us vs Q E hg hr e0 hb r q => ?_⟩
  exact run_ofS (E := E) lk hcd S hr e0 hb r (len _ _ _ _ q) fun hr' => by
    obtain ⟨t, h1, h2⟩ := hbody A outer s H vs Q E hg hr' q
    exact ⟨t, h1.nox, h2⟩
end
end OGX
set_option Elab.async false
set_option linter.all false
set_option maxRecDepth 100000
set_option maxHeartbeats 4000000
namespace OGX
open PySem PySem.Spec PyProof.Rows L2
section
variable {X : Cx}
/-- repr of data at any depth -/
def rReprP (K : PySem.W.Frag) : List V → Hp → VK → Prop := fun xs H Q => ∃ (v : V) (d : PyData), xs = [v] ∧ Dp K H v d ∧ d.showable = true ∧ d.hasDict = false ∧ d.depth ≤ 60 ∧ d.shown.length ≤ sizeLine ∧ Q (.str d.shown) H
theorem call_reprP (hg : X.A.guards = some []) (hu : X.A.units + 64 < cLine) : CallR X (.builtin "repr") (rReprP X.K) := by
  intro pins s σ H xs us Q I r h
  obtain ⟨v, d, rfl, e, hs, hd, hp, hz, q⟩ := h
  obtain ⟨u, rfl, ru⟩ := vals1 r
  obtain ⟨as, R⟩ := Dp.reads I d v u e ru
  exact repr_go hg hu I R hs hd hp hz q
/-- x not in t, t a tuple of data -/
def rNotInT (K : PySem.W.Frag) : R2 := fun x y H Q => ∃ d ds, Dp K H x d ∧ Dp K H y (.tuple ds) ∧ SeqAt.shaped d = true ∧ SeqAt.shaped (.tuple ds) = true ∧ Q (.bl (!ds.any fun z => PyData.eqv z d)) H
theorem op_notInT (hu : X.A.units + 65 < cLine) : OpR X (compareOp .NotIn) (rNotInT X.K) := by
  intro pins s σ H x y v u Q I rx ry h
  obtain ⟨d, ds, hd, he, sd, se, q⟩ := h
  obtain ⟨as, r1⟩ := Dp.reads I d x v hd rx
  obtain ⟨bs, r2⟩ := Dp.reads I (.tuple ds) y u he ry
  exact SeqAt.notIn_tuple_reads r2 r1 (SeqAt.canLay_of_shaped se) (SeqAt.canLay_of_shaped sd) (PyProof.Rows.room_in_shaped sd hu) ⟨.bl _, H, I, rfl, q⟩
/-- what sorted makes of data -/
def sortD (ds : List PyData) : List PyData := ds.mergeSort (PySem.W.dataLe false id)
def rSortD (K : PySem.W.Frag) : List V → Hp → VK → Prop := fun vs H Q => ∃ (a : Addr) (xs : List V) (ds : List PyData), vs = [V.ref a] ∧ SqL K H a xs ∧ DpAll K H xs ds ∧ PySem.W.AllAlike ds ∧ PySem.W.Sortable ds ∧ (∀ d ∈ ds, d.depth ≤ 50) ∧
  ∀ (ys : List V) (p : Addr), DpAll K H ys (sortD ds) → H p = none → Q (.ref p) (upd H p (.lst ys))
theorem each_of {K : PySem.W.Frag} {H : Hp} : ∀ {xs : List V} {us : List Value} {ds : List PyData}, Vals xs us → DpAll K H xs ds → PySem.W.EachIs (fun v d => ∃ x, RelV x v ∧ Dp K H x d) us ds
  | _, _, _, .nil, .nil => .nil
  | _, _, _, .cons r t, .cons p q => .cons ⟨_, r, p⟩ (each_of t q)
theorem of_each {K : PySem.W.Frag} {H : Hp} : ∀ {us : List Value} {ds : List PyData}, PySem.W.EachIs (fun v d => ∃ x, RelV x v ∧ Dp K H x d) us ds → ∃ ys, Vals ys us ∧ DpAll K H ys ds
  | _, _, .nil => ⟨[], .nil, .nil⟩
  | _, _, .cons ⟨x, r, p⟩ t => by
    obtain ⟨ys, a, b⟩ := of_each t
    exact ⟨x :: ys, .cons r a, .cons p b⟩
theorem cr_sortD (hu : X.A.units + 64 < cLine) : CallR X (.builtin "sorted") (rSortD X.K) := by
  intro pins s σ H vs us Q I r h
  obtain ⟨a, xs, ds, rfl, hs, hd, hal, hk, hp, q⟩ := h
  obtain ⟨its, rv, hl, hz⟩ := I.list hs
  rw [Vals.ref1 r]
  have e := each_of rv hd
  have hlen : ds.length = its.length := (PySem.W.EachIs.length e).symm
  refine PySem.W.sorted_data (enc := id) hl.isList e (e.mono fun v d ⟨x, rx, dx⟩ => Dp.reads I d x v dx rx) (by rw [List.map_id]; exact hal) (by rw [List.map_id]; exact hk) (by rw [hlen, ← rv.length]; exact hz) (fun d hm => by have := hp d hm; show X.A.units + 2 + d.depth < cLine; omega) fun out h1 h2 => ?_
  obtain ⟨ep, he⟩ := PyProof.Rows.sortedAll_at s.heap its out.toArray
  obtain ⟨ys, ry, dy⟩ := of_each h2
  refine ⟨.ref _, upd H (s.heap.objs.size + 1) (.lst ys), I.laid (t' := s.toks) (fun _ _ => PyProof.Rows.sortedAll_old) (Nat.le_succ _) ⟨?_, out, ep, ry, he⟩, rfl, q ys _ dy (I.hok.fresh (Nat.le_succ _))⟩
  rw [ry.length, h1, hlen, ← rv.length]
  exact hz
end
section
variable {X : Cx} {CX : CXT} {k : Nat} {f : Addr} {fd : FuncData} {ps ks : List Str} {sp : Sp} {E : XK} {x : Str} {p pos : Pos} {kws : List Keyword} {tk : TA} {g : List Value → List Value → List Value} {gV : List V → List V → List V}
/-- f(k = v, ..) -/
theorem pe_callK0 (F : FnOk X.prog X.w X.K X.mg X.base CX k f fd ps sp) (hr : Room k X.A) (hg : Gl X x) (hm : X.mg x = some (.ref f)) (hk : PySem.W.keepIn X.K (.ref f) = true) (hb : KBinds X.K fd ps ks g gV) (hx : Passes CX X E) (hkw : PK X kws tk)
    (hall : (backToKw pos (keywordEach kws X.env)).all (·.1.isSome) = true := by rfl) (hks : (backToKw pos (keywordEach kws X.env)).filterMap (·.1) = ks := by rfl) (hdb : (x == ("__debug__" : Str)) = false := by decide)
    (hpl : ((backTo pos (starEach [] X.env)).any (·.1) || (backToKw pos (keywordEach kws X.env)).any (·.1.isNone)) = false := by rfl) : PE X (.Call (.Name x p) [] kws pos) (tCallK sp gV E tNil tk) := by
  refine ⟨fun pins s σ H Q I h => wpAny_Call_Name_kw (ld_glob I hg hm ?_ hdb)⟩
  refine PySem.W.callWith_KW0 (h₀ := X.base) I.ok.mod.kin hk hall (thn (hkw.run pos pins s σ H _ I h) fun ws s2 ⟨zs, H2, I2, rz, q2⟩ => ⟨I2.kIn, ?_⟩) hpl
  rw [hks]
  exact run_fnk (us := []) (vs := []) F hr hb hx I2 .nil rz q2
end
end OGX
set_option Elab.async false
set_option linter.all false
set_option maxRecDepth 100000
set_option maxHeartbeats 4000000
namespace OGX
open PySem PySem.Spec PyProof.Rows L2
/-- data that a law may hand about: small dicts at the top, else None, truth values, ints, texts, lists and tuples of these -/
def ShD (K : PySem.W.Frag) (H : Hp) (v : V) (d : PyData) : Prop := (Dp K H v d ∧ d.hasDict = false) ∨ (∃ a, v = .ref a ∧ ((H a = some (.dK []) ∧ d = .dict []) ∨ ∃ (k : Str) (i : Int), H a = some (.dK [(.inr k, .int i)]) ∧ d = .dict [(.str k, .int i)]))
section
variable {X : Cx}
theorem dict_reads {pins : List (Addr × Obj)} {σ : L2.St} {H : Hp} {s : Shared} {a : Addr} (I : Inv X pins σ H s) {kvs : List (Key × V)} (h : H a = some (.dK kvs)) {d : PyData} (hd : (kvs = [] ∧ d = .dict []) ∨ ∃ (k : Str) (i : Int), kvs = [(.inr k, .int i)] ∧ d = .dict [(.str k, .int i)]) : a ≠ sysModules ∧ Reads s.heap (.ref a) d [a] := by
  obtain ⟨_, e, vs, kv, o, es, ep, g, x, hd', _, pr, _⟩ := (show ObjOk X.prog X.w H s.heap a (.dK kvs) from I.hok a _ h)
  refine ⟨fun z => by rw [z] at e; simp at e, ?_⟩
  rcases hd with ⟨rfl, rfl⟩ | ⟨k, i, rfl, rfl⟩
  · cases kv
    have el : es.toList = [] := by
      generalize es.toList = l at pr
      cases pr
      rfl
    exact .dict (as := []) (bs := []) g x.1 hd' (by rw [el]; exact .nil) (by rw [el]; exact .nil)
  · cases kv with
    | cons q t =>
      cases t
      obtain ⟨q1, t2, q2⟩ := q
      have el : ∃ en : DictEntry, es.toList = [en] ∧ keyIs (.inr k) en.key = true ∧ en.val = .int i t2 := by
        generalize es.toList = l at pr
        cases pr with
        | cons hk hv r =>
          cases r
          refine ⟨_, rfl, ?_, ?_⟩
          · have hk : keyIs _ _ = true := hk
            rw [← q1] at hk
            exact hk
          · exact hv.trans q2
      obtain ⟨en, el, ek, ev⟩ := el
      obtain ⟨t3, e3⟩ := Value.isStrOf_shape (x := k) (v := en.key) ek
      refine .dict (as := []) (bs := []) g x.1 hd' ?_ ?_
      · rw [el]
        show ReadsAll s.heap [en.key] [.str k] []
        rw [e3]
        exact .cons (.str k t3) .nil
      · rw [el]
        show ReadsAll s.heap [en.val] [.int i] []
        rw [ev]
        exact .cons (.int i t2) .nil
def rReprV (K : PySem.W.Frag) : List V → Hp → VK → Prop := fun xs H Q => ∃ (v : V) (d : PyData), xs = [v] ∧ ShD K H v d ∧ d.showable = true ∧ d.depth ≤ 60 ∧ d.shown.length ≤ sizeLine ∧ Q (.str d.shown) H
theorem call_reprV (hg : X.A.guards = some []) (hu : X.A.units + 64 < cLine) : CallR X (.builtin "repr") (rReprV X.K) := by
  intro pins s σ H xs us Q I r h
  obtain ⟨v, d, rfl, e, hs, hp, hz, q⟩ := h
  obtain ⟨u, rfl, ru⟩ := vals1 r
  rcases e with ⟨e, hd⟩ | ⟨a, rfl, e⟩
  · obtain ⟨as, R⟩ := Dp.reads I d v u e ru
    exact repr_go hg hu I R hs hd hp hz q
  · cases ru
    obtain ⟨ns, R⟩ : a ≠ sysModules ∧ Reads s.heap (.ref a) d [a] := by
      rcases e with ⟨h, rfl⟩ | ⟨k, i, h, rfl⟩
      · exact dict_reads I h (.inl ⟨rfl, rfl⟩)
      · exact dict_reads I h (.inr ⟨k, i, rfl, rfl⟩)
    refine repr_of_reads' R hs (fun _ z => ns (List.mem_singleton.mp z).symm) hg (by omega) (fun _ _ z => z) (fun h' t tk k => ⟨.str d.shown, H, I.kept k, ⟨_, rfl⟩, q⟩) hz
end
end OGX
set_option Elab.async false
set_option linter.all false
set_option maxRecDepth 100000
set_option maxHeartbeats 4000000
namespace OGX
open PySem PySem.Spec PyProof.Rows L2 LamX
/-- e.f, e a kept exception of a class that is told in the reading -/
def tXvA (K : PySem.W.Frag) (f : Str) (te : TE) : TE := fun σ H Q => te σ H fun x H1 => ∃ (C a dd : Addr) (fs : List (Str × V)) (v : V), x = .ref a ∧ H1 a = some (ExV (.ref C) (some dd) a) ∧ H1 dd = some (.xd fs) ∧ XfC K C ∧ PySem.W.findIn K (.ref C) f = some none ∧ fs.lookup f = some v ∧ Q v H1
theorem pe_xvA {X : Cx} {e : Expr} {te : TE} {pos : Pos} {n : Str} (he : PE X e te) (hb : attributeBase e n X.env (eval e X.env) = eval e X.env := by rfl) : PE X (.Attribute e n pos) (tXvA X.K n te) := by
  refine ⟨fun pins s σ H Q I h => ?_⟩
  refine attr_of hb (thn (he.run pins s σ H _ I h) fun u s1 hh => ?_)
  obtain ⟨x, H1, I1, rx, C, a, dd, fs, v, ex, eo, ea, T, hno, l, q⟩ := hh
  subst ex
  obtain rfl : u = Value.ref a := rx
  obtain ⟨⟨oe, vs, ha, hz, hd⟩, _, _⟩ := I1.hok a _ eo
  have hx : ObjOk X.prog X.w H1 s1.heap dd (.xd fs) := I1.hok dd _ ea
  obtain ⟨mA, hns, hr⟩ := hx
  obtain ⟨od, ho, hl⟩ := lookIn_ns hns
  obtain ⟨u, hu, ru⟩ := RelO.some_of (v := v) (o := mA n) (by rw [← l]; exact hr n)
  have J : PySem.W.InstAt s1.heap a oe C (some od) := ⟨ha, hz.1, by unfold PySem.W.notCls; rw [hd] <;> rfl, by rw [hz.2]; exact ho⟩
  exact HandSPX.exc_get I1.kIn J T.ga T.gg T.exC (PySem.W.findObj_own T.hdC hno rfl (by rw [hl, hu])) (handed_of ru) ⟨v, H1, I1.tok _, ru, q⟩
end OGX
set_option Elab.async false
set_option linter.all false
set_option maxRecDepth 100000
set_option maxHeartbeats 4000000
namespace OGX
open PySem PySem.Spec PyProof.Rows L2
section
variable {X : Cx}
/-- xs == []: whatever the items are -/
def rEqNil (K : PySem.W.Frag) : R2 := fun x y H Q => ∃ (a b : Addr) (xs : List V), x = .ref a ∧ y = .ref b ∧ SqL K H a xs ∧ SqL K H b [] ∧ Q (.bl xs.isEmpty) H
theorem op_eqNil (hu : X.A.units + 64 < cLine) : OpR X (compareOp .Eq) (rEqNil X.K) := by
  intro pins s σ H x y v u Q I rx ry h
  obtain ⟨a, b, xs, rfl, rfl, h1, h2, q⟩ := h
  cases rx
  cases ry
  obtain ⟨its, r1, p1, _⟩ := I.list h1
  obtain ⟨its2, r2, p2, _⟩ := I.list h2
  cases r2
  cases r1 with
  | nil => exact SeqAt.eq_listAt (e := fun _ => true) p1.isList p2.isList rfl (by omega) (fun j h1 _ => absurd h1 (by simp)) ⟨.bl _, H, I, rfl, q⟩
  | cons r rs => exact SeqAt.eq_list_lengthsAt p1.isList p2.isList (by simp) (by omega) ⟨.bl _, H, I, rfl, q⟩
end
end OGX
set_option Elab.async false
set_option linter.all false
set_option maxRecDepth 100000
set_option maxHeartbeats 4000000
namespace OGX
open PySem PySem.Spec PyProof.Rows L2 LamX
/-- as law_callG, with tables of code objects -/
theorem law_callGL {P : Program} {w : World} {K : PySem.W.Frag} {mg mb : Str → Option Value} {k : Nat} {fa a : Addr} {Ts : List (Addr × Addr)} {fd : FuncData} {x : Str} {sp : Sp} {s₁ : Shared} {vs : List Value} {ns : List Int}
    (KX : K.In s₁.heap) (G : s₁.heap.Ns mainGlobals mg) (B : s₁.heap.Ns builtinsNs mb) (bs : ∀ x : Str, x ≠ "__name__" → mb x = bootBuiltins x) (lim : s₁.heap.NoLimit) (gens : s₁.gens = #[])
    (tP : ∀ t ∈ Ts, s₁.heap.get? t.2 = some { cls := .none, data := .fields #[] }) (kP : ∀ t ∈ Ts, K.lookup t.2 = none) (cd : ∀ t ∈ Ts, PySem.W.CodeHd s₁.heap t.1 t.2)
    (bmod : ∃ (bm : Addr) (ob : Obj), mg "__builtins__" = some (.ref bm) ∧ bm ≠ builtinsNs ∧ s₁.heap.get? bm = some ob ∧ ob.cls = .type "module" ∧ ob.dict = some builtinsNs ∧ ob.data = .plain)
    (ha : s₁.heap.get? a = some { cls := .type "list", data := .seq vs.toArray }) (hi : IntsAre vs ns) (hl : ns.length ≤ sizeLine) (hr : Room k callerA)
    (F : ∀ base : Heap, K.In base → base.Ns mainGlobals mg → (∀ t ∈ Ts, TabB base mg t.1 t.2) → FnG P w K mg base k fa fd [x] sp) (hb : ∀ (s : Shared) (u : Value), BindsTo s fd ⟨[u], []⟩ [(x, u)])
    (hsp : ∀ H : Hp, (∀ t ∈ Ts, H t.2 = some (.tbl #[])) → SqL K H a (ns.map V.int) → sp [.ref a] H (fun v _ => v = .bl true) E0) :
    codeAny (model P w) callerA (.call (.ref fa) ⟨[.ref a], []⟩) (fun r s' => r = .ok (.ret (.bool true)) ∧ OldK s₁.heap s'.heap ∧ s'.os = s₁.os ∧ AllBare s'.gens) s₁ := by
  have rv := vals_ints hi
  have naP : ∀ t ∈ Ts, a ≠ t.2 := fun t ht z => by
    rw [z, tP t ht] at ha
    cases ha
  have go : ∀ H : Hp, (∀ t ∈ Ts, H t.2 = some (.tbl #[])) → (∀ b u, H b = some u → (∃ t ∈ Ts, b = t.2) ∨ (b = a ∧ K.lookup a = none ∧ u = .frz { cls := .type "list", data := .seq vs.toArray } (.lst (ns.map V.int)))) → SqL K H a (ns.map V.int) →
      codeAny (model P w) callerA (.call (.ref fa) ⟨[.ref a], []⟩) (fun r s' => r = .ok (.ret (.bool true)) ∧ OldK s₁.heap s'.heap ∧ s'.os = s₁.os ∧ AllBare s'.gens) s₁ := by
    intro H hP hH hS
    have out : ∀ {b : Addr} {o : Obj}, s₁.heap.get? b = some o → (b = a → False) → ((∃ t ∈ Ts, b = t.2) → False) → (hidT s₁.heap H).get? b = some o := fun {b o} e n m => hidT_get e (by
      cases q : H b with
      | none => rfl
      | some u => exact ((hH b u q).elim m fun z => n z.1).elim)
    have ns1 : ∀ {b : Addr} {m : Str → Option Value}, s₁.heap.Ns b m → (hidT s₁.heap H).Ns b m := by
      rintro b m ⟨o, es, ep, e, d, r⟩
      refine ⟨o, es, ep, out e (fun z => ?_) (fun z => ?_), d, r⟩
      · rw [z, ha] at e
        cases e
        cases d
      · obtain ⟨t, ht, z⟩ := z
        rw [z, tP t ht] at e
        cases e
        cases d
    have K1 : K.In (hidT s₁.heap H) := fun b o e => hidT_get (KX b o e) (by
      cases q : H b with
      | none => rfl
      | some u =>
        rcases hH b u q with ⟨t, ht, z⟩ | ⟨z, hk, _⟩
        · rw [z, kP t ht] at e
          cases e
        · rw [z, hk] at e
          cases e)
    have TB : ∀ t ∈ Ts, TabB (hidT s₁.heap H) mg t.1 t.2 := by
      intro t ht
      refine ⟨?_, ?_, fun z => ?_⟩
      · obtain ⟨o, us, file, tf, flags, tg, inF, text, tt, e1, r1, r2, r3, r4, r5, r6, r7, r8, ne⟩ := cd t ht
        refine ⟨o, us, file, tf, flags, tg, inF, text, tt, out e1 (fun z => ?_) (fun z => ?_), r1, r2, r3, r4, r5, r6, r7, r8, ne⟩
        · rw [z, ha] at e1
          cases e1
          exact absurd r1 (by simp)
        · obtain ⟨t', ht', z⟩ := z
          rw [z, tP t' ht'] at e1
          cases e1
          exact absurd r1 (by simp)
      · obtain ⟨bm, ob, b1, b2, b3, b4, b5, b6⟩ := bmod
        refine ⟨bm, ob, b1, b2, fun z => ?_, fun z => ?_, out b3 (fun z => ?_) (fun z => ?_), b4, b5, b6⟩
        · obtain ⟨o, es, ep, e, d, _⟩ := G
          rw [z, e] at b3
          cases b3
          rw [d] at b6
          cases b6
        · rw [z, tP t ht] at b3
          cases b3
          cases b6
        · rw [z, ha] at b3
          cases b3
          cases b6
        · obtain ⟨t', ht', z⟩ := z
          rw [z, tP t' ht'] at b3
          cases b3
          cases b6
      · obtain ⟨o, es, ep, e, d, _⟩ := G
        rw [z, tP t ht] at e
        cases e
        cases d
    obtain ⟨mc, l1, l2⟩ := lim
    have e0 : Env0 P w K mg (hidT s₁.heap H) callerA [] s₁ H := {
      frames := rfl
      mod := ⟨K1, ns1 G, ⟨mb, ns1 B, bs⟩, ⟨mc, ns1 l1, l2⟩⟩
      bs := fun b o e => of_hidT e
      bsz := Nat.le_of_eq (hidT_size _ _)
      funs := trivial
      frf := fun b z => by cases z
      hok := fun b u q => by
        rcases hH b u q with ⟨t, ht, z⟩ | ⟨z, _, rfl⟩
        · rw [z] at q ⊢
          rw [hP t ht] at q
          cases q
          exact tP t ht
        · rw [z]
          exact ⟨ha, by rw [List.length_map]; exact hl, vs, _, rv, ha⟩
      bare := .of_eq gens }
    refine codeAny_mono ((F _ K1 (ns1 G) TB).run callerA [] s₁ H ⟨[.ref a], []⟩ [.ref a] [.ref a] _ _ rfl hr e0 (hb s₁ (.ref a)) (.cons rfl .nil) (hsp H hP hS)) fun r s' z => ?_
    rcases r with e | fl
    · exact z.elim
    rcases fl with _ | _ | _ | u
    case next => exact z.elim
    case brk => exact z.elim
    case cont => exact z.elim
    obtain ⟨v, H', os, bare, un, ok', rv', q⟩ := z
    cases (show v = .bl true from q)
    cases (show u = Value.bool true from rv')
    have kept : ∀ b o, (¬ ∃ t ∈ Ts, b = t.2) → s₁.heap.get? b = some o → s'.heap.get? b = some o := fun b o n e => by
      cases q : H b with
      | none => exact un.keep b o e q (fun z => by cases z) (fun z => by cases z)
      | some t =>
        rcases hH b t q with z | ⟨rfl, _, rfl⟩
        · exact absurd z n
        · obtain ⟨g, _⟩ := ok' b _ (un.frzs b _ _ q)
          rw [ha] at e
          cases e
          exact g
    have gr : ∀ t ∈ Ts, ∃ more, s'.heap.get? t.2 = some { cls := .none, data := .fields (#[] ++ more) } := fun t ht => by
      obtain ⟨more, gr⟩ := un.tbls t.2 #[] (hP t ht)
      exact ⟨more, ok' t.2 _ gr⟩
    refine ⟨rfl, ⟨fun b o e => ?_, fun b o e => ?_⟩, os, bare⟩
    · by_cases h : ∃ t ∈ Ts, b = t.2
      · obtain ⟨t, ht, h⟩ := h
        obtain ⟨more, gr⟩ := gr t ht
        rw [h, tP t ht] at e
        cases e
        rw [h]
        exact .inr (.inl ⟨((cd t ht).tab (tP t ht)).isCodeTable, rfl, #[], more, rfl, gr⟩)
      · exact .inl (kept b o h e)
    · by_cases h : ∃ t ∈ Ts, b = t.2
      · obtain ⟨t, ht, h⟩ := h
        obtain ⟨more, gr⟩ := gr t ht
        rw [h]
        exact ⟨_, gr⟩
      · exact ⟨o, kept b o h e⟩
  have isT : ∀ b, (Ts.any fun t => decide (t.2 = b)) = true ↔ ∃ t ∈ Ts, b = t.2 := fun b => by
    rw [List.any_eq_true]
    exact ⟨fun ⟨t, ht, e⟩ => ⟨t, ht, (of_decide_eq_true e).symm⟩, fun ⟨t, ht, e⟩ => ⟨t, ht, decide_eq_true e.symm⟩⟩
  cases hk : K.lookup a with
  | some o =>
    have e := KX a o hk
    rw [ha] at e
    cases e
    refine go (fun b => if (Ts.any fun t => decide (t.2 = b)) = true then some (.tbl #[]) else none) (fun t ht => if_pos ((isT _).mpr ⟨t, ht, rfl⟩)) (fun b u z => ?_) (.inr ⟨_, vs.toArray, _, hk, rfl, rfl, rfl, by rw [List.size_toArray, hi.length]; exact hl, by simpa using rv⟩)
    by_cases h : (Ts.any fun t => decide (t.2 = b)) = true
    · exact .inl ((isT _).mp h)
    · cases (if_neg h).symm.trans z
  | none =>
    refine go (fun b => if (Ts.any fun t => decide (t.2 = b)) = true then some (.tbl #[]) else if b = a then some (.frz { cls := .type "list", data := .seq vs.toArray } (.lst (ns.map V.int))) else none) (fun t ht => if_pos ((isT _).mpr ⟨t, ht, rfl⟩)) (fun b u z => ?_) (.inl (.inr ⟨{ cls := .type "list", data := .seq vs.toArray }, (if_neg fun z => by
      obtain ⟨t, ht, z⟩ := (isT _).mp z
      exact naP t ht z).trans (if_pos rfl)⟩))
    by_cases h : (Ts.any fun t => decide (t.2 = b)) = true
    · exact .inl ((isT _).mp h)
    · have z := (if_neg h).symm.trans z
      by_cases h2 : b = a
      · exact .inr ⟨h2, hk, (Option.some.inj ((if_pos h2).symm.trans z)).symm⟩
      · cases (if_neg h2).symm.trans z
theorem walkGL {l : PySem.W.OpenLaw} {n k : Nat} {q : Program} {loose : List Str} {XP : (Str → Option Value) → Heap → Prop} {YP : World → Heap → Prop} {d : DefRec} {K : Params → PySem.W.Frag} {x : Str}
    (h1 : l.most = some n) (h2 : n ≤ sizeLine) (h3 : d.params.defaults = []) (h4 : Room k callerA) (h5 : ∀ (w : World) (h : Heap), YP w h → (K w.params).In h)
    (h6 : ∀ (w : World) (mg : Str → Option Value) (fa : Addr) (h : Heap), YP w h → XP mg h → (K w.params).In h → h.Ns mainGlobals mg → mg d.name = some (.ref fa) → ∃ (fd : FuncData) (sp : Sp) (Ts : List (Addr × Addr)), (∀ t ∈ Ts, h.get? t.2 = some { cls := .none, data := .fields #[] }) ∧ (∀ t ∈ Ts, (K w.params).lookup t.2 = none) ∧ (∀ t ∈ Ts, PySem.W.CodeHd h t.1 t.2) ∧
      (∀ (s : Shared) (u : Value), BindsTo s fd ⟨[u], []⟩ [(x, u)]) ∧
      (∀ (H : Hp) (a : Addr) (ns : List Int), ns.length ≤ n → (∀ z ∈ ns, Builtin.Int.intBits z ≤ 1048576) → (∀ t ∈ Ts, H t.2 = some (.tbl #[])) → SqL (K w.params) H a (ns.map V.int) → sp [.ref a] H (fun v _ => v = .bl true) E0) ∧
      ∀ base : Heap, (K w.params).In base → base.Ns mainGlobals mg → (∀ t ∈ Ts, TabB base mg t.1 t.2) → FnG l.prog w (K w.params) mg base k fa fd [x] sp) :
    PySem.W.WalkO q loose XP YP l.row.toRowW d [] (fun f vs => PySem.call f vs) := by
  refine Att.attach_callB h1 h3 fun w a0 a1 mg mb fa o pm cd doc a vs ns G Y b1 b2 b3 b4 b5 b6 b7 b8 b9 => ?_
  have X := h5 w _ Y
  obtain ⟨fd, sp, Ts, c1, c2, c3, c4, c5, c6⟩ := h6 w mg fa _ Y G.X X G.T.g b4
  exact law_callGL X G.T.g G.T.b G.T.builtins G.T.nolimit b9 c1 c2 c3 G.T.bmain b5 b6 (Nat.le_trans b7 h2) h4 c6 c4 fun H hP hS => c5 H a ns b7 b8 hP hS
end OGX
set_option Elab.async false
set_option linter.all false
set_option maxRecDepth 100000
set_option maxHeartbeats 4000000
namespace OGX
open PySem PySem.Spec PyProof.Rows L2
/-! cuts: what is wanted behind a part is said in a word of one's own -/
theorem pe_cut {X : Cx} {e : Expr} {te : TE} (h : PE X e te) : PE X e (fun σ H Q => ∃ Qs : VK, (∀ v H', Qs v H' → Q v H') ∧ te σ H Qs) := by
  refine ⟨fun pins s σ H Q I hh => ?_⟩
  obtain ⟨Qs, hq, ht⟩ := hh
  refine wpAny_mono (h.run pins s σ H Qs I ht) (fun u s1 hu => ?_) fun _ _ x => x
  obtain ⟨v, H1, I1, r1, q1⟩ := hu
  exact ⟨v, H1, I1, r1, hq v H1 q1⟩
theorem pt_cut {X : Cx} {e : Expr} {te : TT} (h : PT X e te) : PT X e (fun σ H Q => ∃ Qs : Bool → Hp → Prop, (∀ v H', Qs v H' → Q v H') ∧ te σ H Qs) := by
  refine ⟨fun pins s σ H Q I hh => ?_⟩
  obtain ⟨Qs, hq, ht⟩ := hh
  refine wpAny_mono (h.run pins s σ H Qs I ht) (fun u s1 hu => ?_) fun _ _ x => x
  obtain ⟨H1, I1, q1⟩ := hu
  exact ⟨H1, I1, hq u H1 q1⟩
theorem ps_cut {X : Cx} {st : Stmt} {t : TS} (h : PS X st t) : PS X st (fun D σ H => ∃ Ns : L2.St → Hp → Prop, (∀ σ' H', Ns σ' H' → D.nx σ' H') ∧ t { D with nx := Ns } σ H) := by
  refine ⟨fun pins s σ H D I hh => ?_⟩
  obtain ⟨Ns, hq, ht⟩ := hh
  refine wpAny_mono (h.run pins s σ H _ I ht) (fun f s1 hu => ?_) fun _ _ x => x
  cases f with
  | next =>
    obtain ⟨σ', H', I', q⟩ := hu
    exact ⟨σ', H', I', hq _ _ q⟩
  | brk => exact hu
  | cont => exact hu
  | ret v => exact hu
end OGX
set_option Elab.async false
set_option linter.all false
set_option maxRecDepth 100000
set_option maxHeartbeats 8000000
namespace OG
open PySem PySem.Spec PyProof.Rows L2
def Frm.data (f : Frm) : PyData := .tuple [.str f.word, .tuple f.partsL]
/-- a form without operands -/
def FrmS (ks : List Str) : Frm → Prop
  | .one gs => GsOk gs
  | .road k g h => k ∈ ks ∧ (1 ≤ g ∧ g ≤ 4) ∧ 1 ≤ h ∧ h ≤ 4
  | _ => False
theorem g1234 (g : Int) (h1 : 1 ≤ g) (h4 : g ≤ 4) : 0 < (([1, 2, 3, 4] : List Int).filter fun x => !decide (x = g)).length := by
  have : g = 1 ∨ g = 2 ∨ g = 3 ∨ g = 4 := by omega
  rcases this with rfl | rfl | rfl | rfl <;> decide
theorem le_lt_nd : ∀ {ns : List Int}, ns.Pairwise (· ≤ ·) → ns.Nodup → ns.Pairwise (· < ·)
  | [], _, _ => .nil
  | n :: r, h1, h2 => by
    rw [List.pairwise_cons] at h1
    rw [List.nodup_cons] at h2
    refine List.pairwise_cons.mpr ⟨fun x hx => ?_, le_lt_nd h1.2 h2.2⟩
    have := h1.1 x hx
    have : n ≠ x := fun e => h2.1 (by rw [e]; exact hx)
    omega
theorem some_ints {ys zs : List V} (pm : (ys ++ zs).Perm (([1, 2, 3, 4] : List Int).map V.int)) : ∃ ns : List Int, ys = ns.map V.int ∧ ns.Nodup ∧ ∀ g ∈ ns, 1 ≤ g ∧ g ≤ 4 := by
  obtain ⟨ns, rfl, hr⟩ := ints_of (P := fun g => 1 ≤ g ∧ g ≤ 4) (xs := ys) fun x hx => by
    have := pm.mem_iff.mp (List.mem_append_left zs hx)
    obtain ⟨z, hz, rfl⟩ := List.mem_map.mp this
    simp only [List.mem_cons, List.mem_nil_iff, or_false] at hz
    exact ⟨z, rfl, by omega⟩
  refine ⟨ns, rfl, ?_, hr⟩
  have nd : (ns.map V.int ++ zs).Nodup := pm.nodup_iff.mpr (by decide)
  have := (List.nodup_append.mp nd).1
  exact (List.pairwise_map.mp this).imp fun h e => h (congrArg V.int e)
section
variable {P : Program} {w : World} {K : PySem.W.Frag} {mg : Str → Option Value} {base : Heap}
theorem Dr.sm9 {p : Addr} {k : Nat} {H H1 H2 : Hp} (d : Dr p k H H1) (s : Same H1 H2) : Dr p k H H2 := ⟨d.1.trans (Same.kp s), d.2.same s⟩
def spSimple (K : PySem.W.Frag) : Sp := fun vs H Q _ => ∃ (p kt : Addr) (w k : Nat) (ks : List Str), vs = [.ref p, .ref kt, .int (w : Int)] ∧ w ≤ 4 ∧ SqT K H kt (ks.map V.str) ∧ 1 ≤ ks.length ∧ ks.length ≤ 3 ∧ Pot (k + 20) H p ∧
  ∀ (a : Addr) (f : Frm) (H' : Hp), Dr p k H H' → H a = none → FrmS ks f → Td K H' (.ref a) f.data → Q (.ref a) H'
theorem ok_l_script_simple (T : Txt K mg) : FnOk P w K mg base CX0 3 T.f_l_script_simple T.fd_l_script_simple ["pot", "kinds", "width"] (spSimple K) := by
  refine T.F_l_script_simple.ok sc_l_script_simple (fun vs H Q E h => ?_) (fun cdv A outer s H vs Q E hr h => ?_)
  · obtain ⟨p, kt, w, k, ks, rfl, _⟩ := h
    rfl
  · obtain ⟨p, kt, w, k, ks, rfl, hw, hK, k1, k3, hP, q⟩ := h
    refine ⟨_, (pss_cons (ps_set (i := 3) sc_l_script_simple.nd rfl (Or.inl rfl) (pe_lst (pa_cons pe_int (pa_cons pe_int (pa_cons pe_int (pa_cons pe_int pa_nil))))))
  (pss_cons (ps_if (OGX.pt_cut (PW.pt (pw_or (pt_cmpR op_eq (pv 2) pe_int (nomark _)) (pw_or1 (pt_cmpR op_eq (pe_call (ok_l_take T) (hr.mono (by decide)) (by rfl) T.g_l_take T.F_l_take.kp T.b_l_take .nil pass0 (pa_cons (pv 0) (pa_cons pe_int pa_nil))) pe_int (nomark _)))))) (pss_cons (ps_set (i := 4) sc_l_script_simple.nd rfl (Or.inl rfl) (pe_call (ok_l_script_some T) (hr.mono (by decide)) (by rfl) T.g_l_script_some T.F_l_script_some.kp T.b_l_script_some .nil pass0 (pa_cons (pv 0) (pa_cons (pv 3) (pa_cons (pe_call (ok_l_take T) (hr.mono (by decide)) (by rfl) T.g_l_take T.F_l_take.kp T.b_l_take .nil pass0 (pa_cons (pv 0) (pa_cons (pe_op op_add (pv 2) pe_int) pa_nil))) pa_nil)))))
  (pss_one (ps_ret (pe_tup (pa_cons pe_str (pa_cons (pe_callTy call_tuple_of (by rfl) T.n_tuple (by decide +kernel) (pa_cons (pe_callB cr_sorted (by rfl) T.n_sorted (by decide +kernel) (pa_cons (pv 4) pa_nil)) pa_nil)) pa_nil)))))) pss_nil)
  (pss_cons (ps_set (i := 5) sc_l_script_simple.nd rfl (Or.inr rfl) (pe_call (ok_l_of T) (hr.mono (by decide)) (by rfl) T.g_l_of T.F_l_of.kp T.b_l_of .nil pass0 (pa_cons (pv 0) (pa_cons (pe_lst (pa_cons pe_int (pa_cons pe_int (pa_cons pe_int (pa_cons (pe_op op_add pe_int (pe_call (ok_l_take T) (hr.mono (by decide)) (by rfl) T.g_l_take T.F_l_take.kp T.b_l_take .nil pass0 (pa_cons (pv 0) (pa_cons pe_int pa_nil)))) pa_nil))))) pa_nil))))
  (pss_cons (ps_set (i := 6) sc_l_script_simple.nd rfl (Or.inl rfl) (OGX.pe_cut (pe_ifExp (PW.pt (pw_or (pt_cmpR op_lt (pv 2) pe_int (nomark _)) (pw_or1 (pt_cmpR op_eq (pe_call (ok_l_take T) (hr.mono (by decide)) (by rfl) T.g_l_take T.F_l_take.kp T.b_l_take .nil pass0 (pa_cons (pv 0) (pa_cons pe_int pa_nil))) pe_int (nomark _))))) (pv 5) (pe_call (ok_l_of T) (hr.mono (by decide)) (by rfl) T.g_l_of T.F_l_of.kp T.b_l_of .nil pass0 (pa_cons (pv 0) (pa_cons (pe_lc (own := [("gate", 7)]) (g := gName 7) (by rfl) sc_l_script_simple.nd (pi_list (pv 3)) (blkOk_by (own := [("gate", 7)]) (by rfl)) (fun _ _ _ _ _ => (pg_name (i := 7) sc_l_script_simple.nd rfl (Or.inl rfl))) (fun _ _ _ _ _ => (pts_one (pt_cmpR op_ne (pv 7) (pv 5) (nomark _)))) (fun _ _ _ _ _ => (pv 7))) pa_nil))))))
  (pss_one (ps_ret (pe_tup (pa_cons pe_str (pa_cons (pe_tup (pa_cons (pe_call (ok_l_ofT T) (hr.mono (by decide)) (by rfl) T.g_l_of T.F_l_of.kp T.b_l_of .nil pass0 (pa_cons (pv 0) (pa_cons (pv 1) pa_nil))) (pa_cons (pv 5) (pa_cons (pv 6) pa_nil)))) pa_nil))))))))), ?_⟩
    have wide : ∀ {n : Nat}, n ≤ 1000 → n ≤ sizeLine := fun h => Nat.le_trans h (by decide)
    refine ⟨wide (show 4 ≤ 1000 by decide), fun gl hgl => ?_⟩
    have s1 := same_new (o := .lst (([1, 2, 3, 4] : List Int).map V.int)) hgl
    have gG : (upd H gl (.lst (([1, 2, 3, 4] : List Int).map V.int))) gl = some (.lst (([1, 2, 3, 4] : List Int).map V.int)) := upd_same
    have nG := hP.ne hgl
    have d1 : Dr p (k + 20) H (upd H gl (.lst (([1, 2, 3, 4] : List Int).map V.int))) := ⟨Same.kp s1, hP.same s1⟩
    have e1 : upd H gl (.lst [.int 1, .int 2, .int 3, .int 4]) = upd H gl (.lst (([1, 2, 3, 4] : List Int).map V.int)) := rfl
    rw [e1]
    generalize upd H gl (.lst (([1, 2, 3, 4] : List Int).map V.int)) = H1 at *
    refine ⟨fun _ H' => Dr p (k + 18) H H' ∧ H' gl = some (.lst (([1, 2, 3, 4] : List Int).map V.int)), fun b H2 ⟨d2, g2⟩ => ?_, ?_⟩
    rotate_left
    · refine ⟨_, rfl, rfl, _, rfl, ?_⟩
      by_cases h0 : w = 0
      · rw [decide_eq_true (by rw [h0]; rfl)]
        exact iteT ⟨d1.mono (by omega), gG⟩
      · rw [decide_eq_false (fun z => h0 (by have := V.int.inj z; omega))]
        refine iteF ?_
        exact ⟨_, rfl, p, 5, k + 19, rfl, d1.2.mono (by omega), by decide, by decide, fun r H2 r0 r1 d2 => ⟨rfl, _, rfl, (d1.trans d2).mono (by omega), d2.st nG gG⟩⟩
    cases b with
    | true =>
      refine iteT ?_
      refine ⟨.ref p, rfl, .ref gl, rfl, .ref p, rfl, .int (w : Int), rfl, _, _, rfl, rfl, p, w + 1, k + 17, rfl, d2.2.mono (by omega), by omega, by omega, fun r H3 r0 r1 d3 => ?_⟩
      have g3 := d3.st nG g2
      obtain ⟨m, rfl⟩ : ∃ m : Nat, r = (m : Int) := ⟨r.toNat, by omega⟩
      refine ⟨p, gl, ([1, 2, 3, 4] : List Int).map V.int, m, k + 10, rfl, d3.2.mono (by omega), SqL.of g3, nG, by show m ≤ 4; omega, by decide, fun q1 ys zs H4 hl pm d4 nq nqp gq => ?_⟩
      obtain ⟨ns, rfl, nd, rg⟩ := some_ints pm
      have nl : ns.length ≤ 4 := by
        rw [List.length_map] at hl
        omega
      refine ⟨_, rfl, q1, ns, rfl, SqL.of gq, by omega, fun ns' L pm2 hs nL => ?_⟩
      have nl' : ns'.length = ns.length := pm2.length_eq
      refine ⟨L, _, rfl, .inl ⟨SqL.of upd_same, fun t ht => ?_⟩⟩
      refine ⟨wide (show 2 ≤ 1000 by decide), fun a ha => ?_⟩
      have f1 := ((d2.trans d3).trans d4).new (o := .lst (ns'.map V.int)) nL
      have f2 := f1.new (o := .tup (ns'.map V.int)) ht
      have gt : (upd (upd H4 L (.lst (ns'.map V.int))) t (.tup (ns'.map V.int))) t = some (.tup (ns'.map V.int)) := upd_same
      have sa := same_new (o := .tup [.str "one", .ref t]) ha
      refine q a (.one ns') _ ((f2.new ha).mono (by omega)) (f2.fr ha) ⟨le_lt_nd hs (pm2.nodup_iff.mpr nd), fun g hg => rg g (pm2.mem_iff.mp hg)⟩ ?_
      exact .tup (SqT.of upd_same) (.cons (.str _) (.cons (.tup (SqT.of (sa _ _ gt)) (tdAll_ints ns')) .nil))
    | false =>
      refine iteF ?_
      dsimp only [tNext, tSeq]
      refine ⟨.ref p, rfl, .ref p, rfl, p, 4, k + 17, rfl, d2.2.mono (by omega), by decide, by decide, fun r H3 r0 r1 d3 => ?_⟩
      refine ⟨_, _, rfl, rfl, wide (show 4 ≤ 1000 by decide), fun l1 hl1 => ?_⟩
      have d13 := d2.trans d3
      have g3 := d3.st nG g2
      refine ⟨p, l1, ([1, 1, 2, 1 + r] : List Int).map V.int, k + 16, rfl, (d13.new hl1).2.mono (by omega), SqL.of upd_same, d13.2.ne hl1, (by show 0 < 4; decide), (by show 4 < 100000; decide), fun i x H4 hx d4 => ?_⟩
      obtain ⟨g, hg, rfl⟩ := int_at hx
      have hg := List.mem_of_getElem? hg
      have gr : 1 ≤ g ∧ g ≤ 4 := by
        simp only [List.mem_cons, List.mem_nil_iff, or_false] at hg
        omega
      have d14 := (d13.new (o := .lst (([1, 1, 2, 1 + r] : List Int).map V.int)) hl1).trans d4
      have g4 := d4.st nG (same_new hl1 _ _ g3)
      have tk4 := d14.tk hP
      refine ⟨fun v H' => ∃ h : Int, v = .int h ∧ (1 ≤ h ∧ h ≤ 4) ∧ Dr p (k + 5) H H', fun v H5 ⟨h, ev, hh, d5⟩ => ?_, ?_⟩
      · subst ev
        have tk5 := d5.tk hP
        obtain ⟨k0, hk0⟩ : ∃ k0, ks[0]? = some k0 := ⟨ks[0]'(by omega), List.getElem?_eq_getElem (by omega)⟩
        refine ⟨.ref p, rfl, .ref kt, rfl, p, kt, ks.map V.str, k + 4, rfl, d5.2.mono (by omega), SqT.tk hK tk5, by rw [List.length_map]; omega, by rw [List.length_map]; omega, fun j x H6 hx d6 => ?_⟩
        obtain ⟨kd, hkd, rfl⟩ := str_at hx
        refine ⟨_, rfl, _, rfl, wide (show 3 ≤ 1000 by decide), fun t ht => ⟨wide (show 2 ≤ 1000 by decide), fun a ha => ?_⟩⟩
        have d6 := d5.trans d6
        have d7 := d6.new (o := .tup [.str kd, .int g, .int h]) ht
        have gt : (upd H6 t (.tup [.str kd, .int g, .int h])) t = some (.tup [.str kd, .int g, .int h]) := upd_same
        have sa := same_new (o := .tup [.str "road", .ref t]) ha
        refine q a (.road kd g h) _ ((d7.new ha).mono (by omega)) (d7.fr ha) ⟨List.mem_of_getElem? hkd, gr, hh⟩ ?_
        exact .tup (SqT.of upd_same) (.cons (.str _) (.cons (.tup (SqT.of (sa _ _ gt)) (.cons (.str _) (.cons (.int _) (.cons (.int _) .nil)))) .nil))
      · have base : ∀ {H' : Hp}, Dr p (k + 5) H H' → ∃ h : Int, V.int g = .int h ∧ (1 ≤ h ∧ h ≤ 4) ∧ Dr p (k + 5) H H' := fun d => ⟨g, rfl, gr, d⟩
        refine ⟨_, rfl, _, _, rfl, rfl, _, rfl, ?_⟩
        by_cases h2 : w < 2
        · rw [decide_eq_true (show ((w : Int) < 2) by omega)]
          refine iteT ?_
          refine iteT ?_
          exact ⟨_, rfl, base (d14.mono (by omega))⟩
        rw [decide_eq_false (show ¬ ((w : Int) < 2) by omega)]
        refine iteF ?_
        refine ⟨_, rfl, p, 5, k + 15, rfl, d14.2, by decide, by decide, fun r5 H5 r50 r51 d5 => ⟨rfl, _, rfl, ?_⟩⟩
        have d15 := d14.trans d5
        have g5 := d5.st nG g4
        by_cases h3 : r5 = 0
        · rw [decide_eq_true (by rw [h3])]
          refine iteT ?_
          exact ⟨_, rfl, base (d15.mono (by omega))⟩
        rw [decide_eq_false (fun z => h3 (V.int.inj z))]
        refine iteF ?_
        refine ⟨.ref p, rfl, .ref gl, rfl, gl, rfl, ⟨_, SqL.of g5⟩, fun D hD => ?_⟩
        have qD := d15.2.ne hD
        refine lc_list (K := K) (a := gl) (xs := ([1, 2, 3, 4] : List Int).map V.int) (fun i H' => Same H5 H' ∧ H' D = some (.lst (((([1, 2, 3, 4] : List Int).take i).filter fun x => !decide (x = g)).map V.int))) ⟨same_new hD, upd_same⟩ (fun i H' _ ⟨s, _⟩ => SqL.of (s _ _ g5)) ?_ ?_
        · rintro i x H6 hx ⟨s6, gD⟩
          obtain ⟨y, hy, rfl⟩ := int_at hx
          have tm := take_more hy
          refine ⟨rfl, ?_⟩
          refine ⟨_, rfl, _, rfl, rfl, _, rfl, ?_⟩
          rw [show decide (V.int y = V.int g) = decide (y = g) from decide_eq_decide.mpr ⟨V.int.inj, congrArg V.int⟩]
          by_cases e : y = g
          · rw [decide_eq_true e]
            refine iteF ?_
            refine ⟨s6, ?_⟩
            rw [tm, List.filter_append, show ([y].filter fun x => !decide (x = g)) = [] by rw [e]; simp, List.append_nil]
            exact gD
          · rw [decide_eq_false e]
            refine iteT ?_
            refine ⟨_, rfl, _, gD, ?_, fun b o e => ?_, ?_⟩
            · rw [List.length_map]
              exact (Nat.lt_of_le_of_lt (List.length_filter_le _ _) (Nat.lt_of_le_of_lt (show ((([1, 2, 3, 4] : List Int).take i)).length ≤ 4 by rw [List.length_take]; exact Nat.min_le_right _ _) (show 4 < sizeLine by decide)))
            · rw [upd_ne (ne_of_none e hD)]
              exact s6 _ _ e
            · rw [upd_same, tm, List.filter_append, show ([y].filter fun x => !decide (x = g)) = [y] by simp [e], List.map_append]
              rfl
        · rintro H6 ⟨s6, gD⟩
          refine ⟨p, D, _, k + 14, rfl, d5.2.same s6, SqL.of gD, qD, ?_, ?_, fun j x H7 hx d7 => ?_⟩
          · rw [List.length_map]
            exact g1234 g gr.1 gr.2
          · rw [List.length_map]
            exact Nat.lt_of_le_of_lt (List.length_filter_le _ _) (by decide)
          · obtain ⟨h, hh, rfl⟩ := int_at hx
            have hh := (List.mem_filter.mp (List.mem_of_getElem? hh)).1
            refine ⟨h, rfl, ?_, ((d15.sm9 s6).trans d7).mono (by omega)⟩
            have : h ∈ ([1, 2, 3, 4] : List Int) := List.mem_of_mem_take hh
            simp only [List.mem_cons, List.mem_nil_iff, or_false] at this
            omega
end
end OG
set_option Elab.async false
set_option linter.all false
set_option maxRecDepth 100000
set_option maxHeartbeats 8000000
namespace OG
open PySem PySem.Spec PyProof.Rows L2
theorem sl_tupAK {X : Cx} (K : PySem.W.Frag) (hK : X.K = K := by rfl) : SlR X (rSlA K) := hK ▸ sl_tupA
theorem ifS_ne {a b : Str} {A B : Prop} (h : decide (a = b) = false) (q : B) : if decide (V.str a = V.str b) = true then A else B := by
  rw [decide_eq_false (fun z => of_decide_eq_false h (V.str.inj z))]
  exact iteF q
theorem ifS_eq {a : Str} {A B : Prop} (q : A) : if decide (V.str a = V.str a) = true then A else B := by
  rw [decide_eq_true rfl]
  exact iteT q
section
variable {K : PySem.W.Frag} {a D : Addr} {xs : List V} {sl : Nat} {tt : TT} {te : TE} {vs : List Nat} {σ : L2.St} {H1 : Hp} {Qd : Hp → Prop}
/-- [x for x in a tuple if ..] -/
theorem lc_filtT (P : V → Bool) (hl : xs.length ≤ 10000) (hD : H1 D = none) (hT : SqT K H1 a xs) (hw : ∀ x, wipe ((wipe σ vs).set sl (some x)) vs = wipe σ vs)
    (ht : ∀ x H' (Q : Bool → Hp → Prop), x ∈ xs → Same H1 H' → (∀ H2, Same H' H2 → Q (P x) H2) → tt ((wipe σ vs).set sl (some x)) H' Q) (he : ∀ x H' (Q : VK), Q x H' → te ((wipe σ vs).set sl (some x)) H' Q)
    (hd : ∀ H', Same H1 H' → H' D = some (.lst (xs.filter P)) → Qd H') :
    ∃ W : Nat → Nat → Hp → Prop, (∃ m, W 0 m (upd H1 D (.lst []))) ∧ ∀ i m H, W i m H →
      ((Itt K a).stop i H ∧ Qd H) ∨ ((Itt K a).go i H ∧ ∃ Nx : Hp → Prop, (∀ H', Nx H' → ∃ m', m' < m ∧ W (i + 1) m' H') ∧ ∀ x H', (Itt K a).yld i H x H' → gName sl x (wipe σ vs) H' fun σ2 H2 => wipe σ2 vs = wipe σ vs ∧ tt σ2 H2 fun b H3 =>
        if b = true then te σ2 H3 fun y H4 => ∃ acc, H4 D = some (.lst acc) ∧ acc.length < sizeLine ∧ Nx (upd H4 D (.lst (acc ++ [y]))) else Nx H3) := by
  refine lc_tup (K := K) (a := a) (xs := xs) (fun i H' => Same H1 H' ∧ H' D = some (.lst ((xs.take i).filter P))) ⟨same_new hD, upd_same⟩ (fun i H' _ ⟨s, _⟩ => SqT.tk hT (Same.tk s)) ?_ ?_
  · rintro i x H' hx ⟨s, g⟩
    have tm := take_more hx
    refine ⟨hw x, ht x H' _ (List.mem_of_getElem? hx) s fun H2 s2 => ?_⟩
    have s := s.trans s2
    have g := s2 _ _ g
    cases e : P x with
    | false =>
      refine iteF ?_
      refine ⟨s, ?_⟩
      rw [tm, List.filter_append, show [x].filter P = [] by simp [e], List.append_nil]
      exact g
    | true =>
      refine iteT ?_
      refine he x H2 _ ⟨_, g, ?_, fun b o e' => ?_, ?_⟩
      · exact Nat.lt_of_le_of_lt (List.length_filter_le _ _) (Nat.lt_of_le_of_lt (show (xs.take i).length ≤ 10000 by rw [List.length_take]; omega) (by decide))
      · rw [upd_ne (ne_of_none e' hD)]
        exact s _ _ e'
      · rw [upd_same, tm, List.filter_append, show [x].filter P = [x] by simp [e]]
  · rintro H' ⟨s, g⟩
    rw [List.take_length] at g
    exact hd H' s g
theorem lc_filtL (P : V → Bool) (hl : xs.length ≤ 10000) (hD : H1 D = none) (hT : SqL K H1 a xs) (hw : ∀ x, wipe ((wipe σ vs).set sl (some x)) vs = wipe σ vs)
    (ht : ∀ x H' (Q : Bool → Hp → Prop), x ∈ xs → Same H1 H' → (∀ H2, Same H' H2 → Q (P x) H2) → tt ((wipe σ vs).set sl (some x)) H' Q) (he : ∀ x H' (Q : VK), Q x H' → te ((wipe σ vs).set sl (some x)) H' Q)
    (hd : ∀ H', Same H1 H' → H' D = some (.lst (xs.filter P)) → Qd H') :
    ∃ W : Nat → Nat → Hp → Prop, (∃ m, W 0 m (upd H1 D (.lst []))) ∧ ∀ i m H, W i m H →
      ((Itl K a).stop i H ∧ Qd H) ∨ ((Itl K a).go i H ∧ ∃ Nx : Hp → Prop, (∀ H', Nx H' → ∃ m', m' < m ∧ W (i + 1) m' H') ∧ ∀ x H', (Itl K a).yld i H x H' → gName sl x (wipe σ vs) H' fun σ2 H2 => wipe σ2 vs = wipe σ vs ∧ tt σ2 H2 fun b H3 =>
        if b = true then te σ2 H3 fun y H4 => ∃ acc, H4 D = some (.lst acc) ∧ acc.length < sizeLine ∧ Nx (upd H4 D (.lst (acc ++ [y]))) else Nx H3) := by
  refine lc_list (K := K) (a := a) (xs := xs) (fun i H' => Same H1 H' ∧ H' D = some (.lst ((xs.take i).filter P))) ⟨same_new hD, upd_same⟩ (fun i H' _ ⟨s, _⟩ => SqL.ext hT s) ?_ ?_
  · rintro i x H' hx ⟨s, g⟩
    have tm := take_more hx
    refine ⟨hw x, ht x H' _ (List.mem_of_getElem? hx) s fun H2 s2 => ?_⟩
    have s := s.trans s2
    have g := s2 _ _ g
    cases e : P x with
    | false =>
      refine iteF ?_
      refine ⟨s, ?_⟩
      rw [tm, List.filter_append, show [x].filter P = [] by simp [e], List.append_nil]
      exact g
    | true =>
      refine iteT ?_
      refine he x H2 _ ⟨_, g, ?_, fun b o e' => ?_, ?_⟩
      · exact Nat.lt_of_le_of_lt (List.length_filter_le _ _) (Nat.lt_of_le_of_lt (show (xs.take i).length ≤ 10000 by rw [List.length_take]; omega) (by decide))
      · rw [upd_ne (ne_of_none e' hD)]
        exact s _ _ e'
      · rw [upd_same, tm, List.filter_append, show [x].filter P = [x] by simp [e]]
  · rintro H' ⟨s, g⟩
    rw [List.take_length] at g
    exact hd H' s g
theorem lc_mapT (F : V → V) (hl : xs.length ≤ 10000) (hD : H1 D = none) (hT : SqT K H1 a xs) (hw : ∀ x, wipe ((wipe σ vs).set sl (some x)) vs = wipe σ vs)
    (ht : ∀ x H' (Q : Bool → Hp → Prop), Q true H' → tt ((wipe σ vs).set sl (some x)) H' Q) (he : ∀ x H' (Q : VK), x ∈ xs → Same H1 H' → (∀ H2, Same H' H2 → Q (F x) H2) → te ((wipe σ vs).set sl (some x)) H' Q)
    (hd : ∀ H', Same H1 H' → H' D = some (.lst (xs.map F)) → Qd H') :
    ∃ W : Nat → Nat → Hp → Prop, (∃ m, W 0 m (upd H1 D (.lst []))) ∧ ∀ i m H, W i m H →
      ((Itt K a).stop i H ∧ Qd H) ∨ ((Itt K a).go i H ∧ ∃ Nx : Hp → Prop, (∀ H', Nx H' → ∃ m', m' < m ∧ W (i + 1) m' H') ∧ ∀ x H', (Itt K a).yld i H x H' → gName sl x (wipe σ vs) H' fun σ2 H2 => wipe σ2 vs = wipe σ vs ∧ tt σ2 H2 fun b H3 =>
        if b = true then te σ2 H3 fun y H4 => ∃ acc, H4 D = some (.lst acc) ∧ acc.length < sizeLine ∧ Nx (upd H4 D (.lst (acc ++ [y]))) else Nx H3) := by
  refine lc_tup (K := K) (a := a) (xs := xs) (fun i H' => Same H1 H' ∧ H' D = some (.lst ((xs.take i).map F))) ⟨same_new hD, upd_same⟩ (fun i H' _ ⟨s, _⟩ => SqT.tk hT (Same.tk s)) ?_ ?_
  · rintro i x H' hx ⟨s, g⟩
    have tm := take_more hx
    refine ⟨hw x, ht x H' _ ?_⟩
    refine iteT ?_
    refine he x H' _ (List.mem_of_getElem? hx) s fun H2 s2 => ?_
    refine ⟨_, s2 _ _ g, ?_, fun b o e' => ?_, ?_⟩
    · exact Nat.lt_of_le_of_lt (show ((xs.take i).map F).length ≤ 10000 by rw [List.length_map, List.length_take]; omega) (by decide)
    · rw [upd_ne (ne_of_none e' hD)]
      exact (s.trans s2) _ _ e'
    · rw [upd_same, tm, List.map_append]
      rfl
  · rintro H' ⟨s, g⟩
    rw [List.take_length] at g
    exact hd H' s g
theorem lc_mapL (F : V → V) (hl : xs.length ≤ 10000) (hD : H1 D = none) (hT : SqL K H1 a xs) (hw : ∀ x, wipe ((wipe σ vs).set sl (some x)) vs = wipe σ vs)
    (ht : ∀ x H' (Q : Bool → Hp → Prop), Q true H' → tt ((wipe σ vs).set sl (some x)) H' Q) (he : ∀ x H' (Q : VK), x ∈ xs → Same H1 H' → (∀ H2, Same H' H2 → Q (F x) H2) → te ((wipe σ vs).set sl (some x)) H' Q)
    (hd : ∀ H', Same H1 H' → H' D = some (.lst (xs.map F)) → Qd H') :
    ∃ W : Nat → Nat → Hp → Prop, (∃ m, W 0 m (upd H1 D (.lst []))) ∧ ∀ i m H, W i m H →
      ((Itl K a).stop i H ∧ Qd H) ∨ ((Itl K a).go i H ∧ ∃ Nx : Hp → Prop, (∀ H', Nx H' → ∃ m', m' < m ∧ W (i + 1) m' H') ∧ ∀ x H', (Itl K a).yld i H x H' → gName sl x (wipe σ vs) H' fun σ2 H2 => wipe σ2 vs = wipe σ vs ∧ tt σ2 H2 fun b H3 =>
        if b = true then te σ2 H3 fun y H4 => ∃ acc, H4 D = some (.lst acc) ∧ acc.length < sizeLine ∧ Nx (upd H4 D (.lst (acc ++ [y]))) else Nx H3) := by
  refine lc_list (K := K) (a := a) (xs := xs) (fun i H' => Same H1 H' ∧ H' D = some (.lst ((xs.take i).map F))) ⟨same_new hD, upd_same⟩ (fun i H' _ ⟨s, _⟩ => SqL.ext hT s) ?_ ?_
  · rintro i x H' hx ⟨s, g⟩
    have tm := take_more hx
    refine ⟨hw x, ht x H' _ ?_⟩
    refine iteT ?_
    refine he x H' _ (List.mem_of_getElem? hx) s fun H2 s2 => ?_
    refine ⟨_, s2 _ _ g, ?_, fun b o e' => ?_, ?_⟩
    · exact Nat.lt_of_le_of_lt (show ((xs.take i).map F).length ≤ 10000 by rw [List.length_map, List.length_take]; omega) (by decide)
    · rw [upd_ne (ne_of_none e' hD)]
      exact (s.trans s2) _ _ e'
    · rw [upd_same, tm, List.map_append]
      rfl
  · rintro H' ⟨s, g⟩
    rw [List.take_length] at g
    exact hd H' s g
theorem lc_mapT' (zs : List Str) (hz : zs.length = xs.length) (hl : xs.length ≤ 10000) (hD : H1 D = none) (hT : SqT K H1 a xs) (hw : ∀ x, wipe ((wipe σ vs).set sl (some x)) vs = wipe σ vs)
    (ht : ∀ x H' (Q : Bool → Hp → Prop), Q true H' → tt ((wipe σ vs).set sl (some x)) H' Q) (he : ∀ (i : Nat) x y H' (Q : VK), xs[i]? = some x → zs[i]? = some y → Same H1 H' → (∀ H2, Same H' H2 → Q (.str y) H2) → te ((wipe σ vs).set sl (some x)) H' Q)
    (hd : ∀ H', Same H1 H' → H' D = some (.lst (zs.map V.str)) → Qd H') :
    ∃ W : Nat → Nat → Hp → Prop, (∃ m, W 0 m (upd H1 D (.lst []))) ∧ ∀ i m H, W i m H →
      ((Itt K a).stop i H ∧ Qd H) ∨ ((Itt K a).go i H ∧ ∃ Nx : Hp → Prop, (∀ H', Nx H' → ∃ m', m' < m ∧ W (i + 1) m' H') ∧ ∀ x H', (Itt K a).yld i H x H' → gName sl x (wipe σ vs) H' fun σ2 H2 => wipe σ2 vs = wipe σ vs ∧ tt σ2 H2 fun b H3 =>
        if b = true then te σ2 H3 fun y H4 => ∃ acc, H4 D = some (.lst acc) ∧ acc.length < sizeLine ∧ Nx (upd H4 D (.lst (acc ++ [y]))) else Nx H3) := by
  refine lc_tup (K := K) (a := a) (xs := xs) (fun i H' => Same H1 H' ∧ H' D = some (.lst ((zs.take i).map V.str))) ⟨same_new hD, upd_same⟩ (fun i H' _ ⟨s, _⟩ => SqT.tk hT (Same.tk s)) ?_ ?_
  · rintro i x H' hx ⟨s, g⟩
    have hi : i < zs.length := by
      rw [hz]
      exact (List.getElem?_eq_some_iff.mp hx).1
    have hy : zs[i]? = some (zs[i]'hi) := List.getElem?_eq_getElem hi
    have tm := take_more hy
    refine ⟨hw x, ht x H' _ ?_⟩
    refine iteT ?_
    refine he i x _ H' _ hx hy s fun H2 s2 => ?_
    refine ⟨_, s2 _ _ g, ?_, fun b o e' => ?_, ?_⟩
    · exact Nat.lt_of_le_of_lt (show ((zs.take i).map V.str).length ≤ 10000 by rw [List.length_map, List.length_take]; omega) (by decide)
    · rw [upd_ne (ne_of_none e' hD)]
      exact (s.trans s2) _ _ e'
    · rw [upd_same, tm, List.map_append]
      rfl
  · rintro H' ⟨s, g⟩
    rw [← hz, List.take_length] at g
    exact hd H' s g
theorem lc_mapL' (zs : List Str) (hz : zs.length = xs.length) (hl : xs.length ≤ 10000) (hD : H1 D = none) (hT : SqL K H1 a xs) (hw : ∀ x, wipe ((wipe σ vs).set sl (some x)) vs = wipe σ vs)
    (ht : ∀ x H' (Q : Bool → Hp → Prop), Q true H' → tt ((wipe σ vs).set sl (some x)) H' Q) (he : ∀ (i : Nat) x y H' (Q : VK), xs[i]? = some x → zs[i]? = some y → Same H1 H' → (∀ H2, Same H' H2 → Q (.str y) H2) → te ((wipe σ vs).set sl (some x)) H' Q)
    (hd : ∀ H', Same H1 H' → H' D = some (.lst (zs.map V.str)) → Qd H') :
    ∃ W : Nat → Nat → Hp → Prop, (∃ m, W 0 m (upd H1 D (.lst []))) ∧ ∀ i m H, W i m H →
      ((Itl K a).stop i H ∧ Qd H) ∨ ((Itl K a).go i H ∧ ∃ Nx : Hp → Prop, (∀ H', Nx H' → ∃ m', m' < m ∧ W (i + 1) m' H') ∧ ∀ x H', (Itl K a).yld i H x H' → gName sl x (wipe σ vs) H' fun σ2 H2 => wipe σ2 vs = wipe σ vs ∧ tt σ2 H2 fun b H3 =>
        if b = true then te σ2 H3 fun y H4 => ∃ acc, H4 D = some (.lst acc) ∧ acc.length < sizeLine ∧ Nx (upd H4 D (.lst (acc ++ [y]))) else Nx H3) := by
  refine lc_list (K := K) (a := a) (xs := xs) (fun i H' => Same H1 H' ∧ H' D = some (.lst ((zs.take i).map V.str))) ⟨same_new hD, upd_same⟩ (fun i H' _ ⟨s, _⟩ => SqL.ext hT s) ?_ ?_
  · rintro i x H' hx ⟨s, g⟩
    have hi : i < zs.length := by
      rw [hz]
      exact (List.getElem?_eq_some_iff.mp hx).1
    have hy : zs[i]? = some (zs[i]'hi) := List.getElem?_eq_getElem hi
    have tm := take_more hy
    refine ⟨hw x, ht x H' _ ?_⟩
    refine iteT ?_
    refine he i x _ H' _ hx hy s fun H2 s2 => ?_
    refine ⟨_, s2 _ _ g, ?_, fun b o e' => ?_, ?_⟩
    · exact Nat.lt_of_le_of_lt (show ((zs.take i).map V.str).length ≤ 10000 by rw [List.length_map, List.length_take]; omega) (by decide)
    · rw [upd_ne (ne_of_none e' hD)]
      exact (s.trans s2) _ _ e'
    · rw [upd_same, tm, List.map_append]
      rfl
  · rintro H' ⟨s, g⟩
    rw [← hz, List.take_length] at g
    exact hd H' s g
end
theorem catI {K : PySem.W.Frag} {a b : Addr} {xs ys : List V} {H : Hp} {Q : VK} (ha : SqT K H a xs) (hb : SqT K H b ys) (hz : xs.length + ys.length ≤ 10000) (k : ∀ p H', Same H H' → SqT K H' p (xs ++ ys) → Q (.ref p) H') : rCatA K (.ref a) (.ref b) H Q := by
  refine ⟨a, b, xs, ys, rfl, rfl, ha, hb, Nat.le_trans hz (by decide), fun e => ?_, fun _ e => ?_, fun _ _ p hp => ?_⟩
  · refine k b H (Same.refl H) ?_
    rw [e]
    exact hb
  · refine k a H (Same.refl H) ?_
    rw [e, List.append_nil]
    exact ha
  · exact k p _ (same_new hp) (SqT.of upd_same)
theorem filt_ints (P : V → Bool) (p : Int → Bool) (h : ∀ y, P (.int y) = p y) : ∀ xs : List Int, (xs.map V.int).filter P = (xs.filter p).map V.int
  | [] => rfl
  | x :: r => by
    rw [List.map_cons, List.filter_cons, List.filter_cons, h x, filt_ints P p h r]
    cases p x <;> rfl
theorem swp_inj {g h x y : Int} (e : swp g h x = swp g h y) : x = y := by
  unfold swp at e
  repeat' split at e
  all_goals omega
theorem map_nodup {f : Int → Int} (hf : ∀ x y, f x = f y → x = y) : ∀ {xs : List Int}, xs.Nodup → (xs.map f).Nodup
  | [], _ => List.nodup_nil
  | x :: r, h => by
    rw [List.nodup_cons] at h
    rw [List.map_cons, List.nodup_cons]
    exact ⟨fun hm => by
      obtain ⟨y, hy, e⟩ := List.mem_map.mp hm
      exact h.1 (hf _ _ e ▸ hy), map_nodup hf h.2⟩
theorem swp_rng {g h x : Int} (hg : 1 ≤ g ∧ g ≤ 4) (hh : 1 ≤ h ∧ h ≤ 4) (hx : 1 ≤ x ∧ x ≤ 4) : 1 ≤ swp g h x ∧ swp g h x ≤ 4 := by
  unfold swp
  split
  · exact hh
  · split
    · exact hg
    · exact hx
/-- what is known is right -/
structure KnOk (kn : Kn) : Prop where
  nd : (kn.map (·.1)).Nodup
  gs : ∀ p ∈ kn, GsOk p.2
theorem KnOk.at {kn : Kn} (h : KnOk kn) {a : Str} {gs : List Int} (e : glk kn a = some gs) : GsOk gs := h.gs _ (glk_some e)
def FrmOk (kn : Kn) : Frm → Prop
  | .one gs => GsOk gs
  | .road k g h => IsNm k ∧ (1 ≤ g ∧ g ≤ 4) ∧ 1 ≤ h ∧ h ≤ 4
  | .prod a b => (∃ g, glk kn a = some g) ∧ ∃ g, glk kn b = some g
  | .close g a => ∃ gs, glk kn a = some gs ∧ g ∈ gs
  | .turn g h a => g ≠ h ∧ (1 ≤ g ∧ g ≤ 4) ∧ (1 ≤ h ∧ h ≤ 4) ∧ ∃ gs, glk kn a = some gs ∧ (g ∈ gs ∨ h ∈ gs)
  | .add fs => fs ≠ [] ∧ fs.length ≤ 100 ∧ (∀ f ∈ fs, FacOk f.1) ∧ ∃ gs, ∀ f ∈ fs, glk kn f.2 = some gs
theorem FrmOk.gsok {kn : Kn} (hk : KnOk kn) : ∀ {f : Frm}, FrmOk kn f → GsOk (f.gates kn)
  | .one gs, h => h
  | .road k g h, _ => asc4_ok _
  | .prod a b, _ => asc4_ok _
  | .close g a, ⟨gs, e, _⟩ => by
    show GsOk (((glk kn a).getD []).filter _)
    rw [e]
    exact (hk.at e).filter _
  | .turn g h a, _ => asc4_ok _
  | .add fs, ⟨hn, _, _, gs, h⟩ => by
    cases fs with
    | nil => exact absurd rfl hn
    | cons f r =>
      show GsOk ((glk kn f.2).getD [])
      rw [h f List.mem_cons_self]
      exact hk.at (h f List.mem_cons_self)
end OG
set_option Elab.async false
set_option linter.all false
set_option maxRecDepth 100000
set_option maxHeartbeats 8000000
namespace OG
open PySem PySem.Spec PyProof.Rows L2
section
variable {P : Program} {w : World} {K : PySem.W.Frag} {mg : Str → Option Value} {base : Heap}
theorem asc4_len (p : Int → Bool) : (asc4 p).length ≤ 4 := (asc4_ok p).len
def swD (g h : Int) : List (Key × V) := [(.inl g, .int h), (.inl h, .int g)]
def swF (g h : Int) : V → V
  | .int i => (valV (swD g h) (.inl i)).getD (.int i)
  | v => v
theorem swF_int (g h x : Int) : swF g h (.int x) = .int (swp g h x) := by
  show (valV (swD g h) (.inl x)).getD (.int x) = _
  unfold swp swD
  by_cases e1 : x = g
  · rw [valV_pos (by rw [e1]), if_pos e1]
    rfl
  · rw [valV_neg (fun z => e1 (Sum.inl.inj z).symm), if_neg e1]
    by_cases e2 : x = h
    · rw [valV_pos (by rw [e2]), if_pos e2]
      rfl
    · rw [valV_neg (fun z => e2 (Sum.inl.inj z).symm), if_neg e2]
      rfl
theorem swF_map (g h : Int) : ∀ xs : List Int, (xs.map V.int).map (swF g h) = (xs.map (swp g h)).map V.int
  | [] => rfl
  | x :: r => by rw [List.map_cons, List.map_cons, List.map_cons, List.map_cons, swF_int, swF_map g h r]
theorem swD_merge {g h : Int} (n : g ≠ h) : mergeK [] (swD g h) = swD g h := by
  show putK (putK [] (.inl g) (.int h)) (.inl h) (.int g) = swD g h
  show (if (([(.inl g, .int h)] : List (Key × V)).any fun kv => decide (kv.1 = .inl h)) = true then _ else _) = swD g h
  rw [if_neg]
  · rfl
  · simp only [List.any_cons, List.any_nil, Bool.or_false, decide_eq_true_eq]
    exact fun e => n (Sum.inl.inj e)
theorem lt_le_nd : ∀ {ns : List Int}, ns.Pairwise (· < ·) → ns.Nodup := fun h => h.imp fun h e => by omega
theorem swp_sorted {gs ns : List Int} {g h : Int} (ok : GsOk gs) (hg : 1 ≤ g ∧ g ≤ 4) (hh : 1 ≤ h ∧ h ≤ 4) (pm : ns.Perm (gs.map (swp g h))) (hs : ns.Pairwise (· ≤ ·)) : ns = asc4 fun x => decide (x ∈ gs.map (swp g h)) := by
  have nd : ns.Nodup := pm.nodup_iff.mpr (map_nodup (fun _ _ => swp_inj) (lt_le_nd ok.asc))
  refine asc_ext (le_lt_nd hs nd) (asc4_ok _).asc fun x => ?_
  rw [mem_asc4, decide_eq_true_eq, pm.mem_iff]
  refine ⟨fun hx => ⟨?_, hx⟩, fun h => h.2⟩
  obtain ⟨y, hy, rfl⟩ := List.mem_map.mp hx
  exact swp_rng hg hh (ok.rng y hy)
def spLGates (K : PySem.W.Frag) : Sp := fun vs H Q _ => ∃ (kd pt : Addr) (kn : Kn) (kvs : List (Key × V)) (f : Frm), vs = [.ref kd, .str f.word, .ref pt] ∧ H kd = some (.dK kvs) ∧ KnD K H kvs kn ∧ KnOk kn ∧ FrmOk kn f ∧
  Td K H (.ref pt) (.tuple f.partsL) ∧ ∀ (v : V) (H' : Hp), Same H H' → Td K H' v (gsD (f.gates kn)) → Q v H'
theorem ok_l_script_line_gates (T : Txt K mg) : FnOk P w K mg base CX0 3 T.f_l_script_line_gates T.fd_l_script_line_gates ["known", "form", "parts"] (spLGates K) := by
  refine T.F_l_script_line_gates.ok sc_l_script_line_gates (fun vs H Q E h => ?_) (fun cdv A outer s H vs Q E hr h => ?_)
  · obtain ⟨kd, pt, kn, kvs, f, rfl, _⟩ := h
    rfl
  · obtain ⟨kd, pt, kn, kvs, f, rfl, gk, hkn, hko, hf, hp, q⟩ := h
    refine ⟨_, (pss_cons (ps_if (pt_cmpR op_eq (pv 1) pe_str (nomark _)) (pss_one (ps_ret (pe_callTy call_tuple_of (by rfl) T.n_tuple (by decide +kernel) (pa_cons (pv 2) pa_nil)))) pss_nil)
  (pss_cons (ps_if (pt_cmpR op_eq (pv 1) pe_str (nomark _)) (pss_one (ps_ret (pe_callTy call_tuple_of (by rfl) T.n_tuple (by decide +kernel) (pa_cons (pe_lc (own := [("gate", 5)]) (g := gName 5) (by rfl) sc_l_script_line_gates.nd (pi_tup (pe_tup (pa_cons pe_int (pa_cons pe_int (pa_cons pe_int (pa_cons pe_int pa_nil)))))) (blkOk_by (own := [("gate", 5)]) (by rfl)) (fun _ _ _ _ _ => (pg_name (i := 5) sc_l_script_line_gates.nd rfl (Or.inl rfl))) (fun _ _ _ _ _ => (pts_one (pt_cmpR (op_in_seqK K) (pv 5) (pe_slice (sl_tupAK K) (pv 2) (po_some pe_int) po_none) rfl))) (fun _ _ _ _ _ => (pv 5))) pa_nil)))) pss_nil)
  (pss_cons (ps_if (pt_cmpR op_eq (pv 1) pe_str (nomark _)) (pss_cons (ps_set (i := 3) sc_l_script_line_gates.nd rfl (Or.inr rfl) (pe_op op_catA (pe_dget (hu_of hr) (pv 0) (pe_ix ix_tup (pv 2) pe_int (fun _ _ => rfl)) (fun _ _ => rfl)) (pe_dget (hu_of hr) (pv 0) (pe_ix ix_tup (pv 2) pe_int (fun _ _ => rfl)) (fun _ _ => rfl))))
  (pss_one (ps_ret (pe_callTy call_tuple_of (by rfl) T.n_tuple (by decide +kernel) (pa_cons (pe_lc (own := [("gate", 5)]) (g := gName 5) (by rfl) sc_l_script_line_gates.nd (pi_tup (pe_tup (pa_cons pe_int (pa_cons pe_int (pa_cons pe_int (pa_cons pe_int pa_nil)))))) (blkOk_by (own := [("gate", 5)]) (by rfl)) (fun _ _ _ _ _ => (pg_name (i := 5) sc_l_script_line_gates.nd rfl (Or.inl rfl))) (fun _ _ _ _ _ => (pts_one (pt_cmpR (op_in_seqK K) (pv 5) (pv 3) rfl))) (fun _ _ _ _ _ => (pv 5))) pa_nil))))) pss_nil)
  (pss_cons (ps_if (pt_cmpR op_eq (pv 1) pe_str (nomark _)) (pss_one (ps_ret (pe_callTy call_tuple_of (by rfl) T.n_tuple (by decide +kernel) (pa_cons (pe_lc (own := [("gate", 5)]) (g := gName 5) (by rfl) sc_l_script_line_gates.nd (pi_tup (pe_dget (hu_of hr) (pv 0) (pe_ix ix_tup (pv 2) pe_int (fun _ _ => rfl)) (fun _ _ => rfl))) (blkOk_by (own := [("gate", 5)]) (by rfl)) (fun _ _ _ _ _ => (pg_name (i := 5) sc_l_script_line_gates.nd rfl (Or.inl rfl))) (fun _ _ _ _ _ => (pts_one (pt_cmpR op_ne (pv 5) (pe_ix (ix_tupK K) (pv 2) pe_int (fun _ _ => rfl)) (nomark _)))) (fun _ _ _ _ _ => (pv 5))) pa_nil)))) pss_nil)
  (pss_cons (ps_if (pt_cmpR op_eq (pv 1) pe_str (nomark _)) (pss_cons (ps_set (i := 4) sc_l_script_line_gates.nd rfl (Or.inr rfl) (pe_disp (pps_cons (pe_ix ix_tup (pv 2) pe_int (fun _ _ => rfl)) (pe_ix ix_tup (pv 2) pe_int (fun _ _ => rfl)) (pps_cons (pe_ix ix_tup (pv 2) pe_int (fun _ _ => rfl)) (pe_ix ix_tup (pv 2) pe_int (fun _ _ => rfl)) pps_nil)) (by rfl) (by rfl) (fun z => by cases z) (by decide)))
  (pss_one (ps_ret (pe_callTy call_tuple_of (by rfl) T.n_tuple (by decide +kernel) (pa_cons (pe_callB cr_sorted (by rfl) T.n_sorted (by decide +kernel) (pa_cons (pe_lc (own := [("gate", 5)]) (g := gName 5) (by rfl) sc_l_script_line_gates.nd (pi_tup (pe_dget (hu_of hr) (pv 0) (pe_ix ix_tup (pv 2) pe_int (fun _ _ => rfl)) (fun _ _ => rfl))) (blkOk_by (own := [("gate", 5)]) (by rfl)) (fun _ _ _ _ _ => (pg_name (i := 5) sc_l_script_line_gates.nd rfl (Or.inl rfl))) (fun _ _ _ _ _ => pts_nil) (fun _ _ _ _ _ => (pe_dget2 (hu_of hr) (pv 4) (pv 5) (pv 5) ⟨rfl, rfl, rfl, rfl⟩))) pa_nil)) pa_nil))))) pss_nil)
  (pss_one (ps_ret (pe_dget (hu_of hr) (pv 0) (pe_ix ix_tup (pe_ix ix_tup (pv 2) pe_int (fun _ _ => rfl)) pe_int (fun _ _ => rfl)) (fun _ _ => rfl))))))))), ?_⟩
    have wide : ∀ {n : Nat}, n ≤ 1000 → n ≤ sizeLine := fun h => Nat.le_trans h (by decide)
    obtain ⟨pa, xs, ea, hT, hA⟩ := hp.tupI
    cases ea
    cases f with
    | one gs =>
      refine ⟨_, rfl, rfl, _, rfl, ?_⟩
      refine (show (if decide (V.str _ = V.str _) = true then _ else _) from ifS_eq ?_)
      exact ⟨_, rfl, pt, xs, rfl, .inr ⟨hT, q _ _ (Same.refl H) hp⟩⟩
    | road k g h =>
      have ex : xs = [.str k, .int g, .int h] := by
        obtain ⟨x, r, rfl, h1, hA⟩ := hA.consI
        rw [h1.strI, tdAll_intsI (gs := [g, h]) hA]
        rfl
      subst ex
      refine ⟨_, rfl, rfl, _, rfl, ?_⟩
      refine (show (if decide (V.str _ = V.str _) = true then _ else _) from ifS_ne (by refine decide_eq_false ?_; dsimp only [Frm.word]; decide) ?_)
      refine ⟨_, rfl, rfl, _, rfl, ?_⟩
      refine (show (if decide (V.str _ = V.str _) = true then _ else _) from ifS_eq ?_)
      refine ⟨wide (show 4 ≤ 1000 by decide), fun a ha => ?_⟩
      have s1 := same_new (o := .tup (([1, 2, 3, 4] : List Int).map V.int)) ha
      have ga : (upd H a (.tup (([1, 2, 3, 4] : List Int).map V.int))) a = some (.tup (([1, 2, 3, 4] : List Int).map V.int)) := upd_same
      have e1 : upd H a (.tup [.int 1, .int 2, .int 3, .int 4]) = upd H a (.tup (([1, 2, 3, 4] : List Int).map V.int)) := rfl
      rw [e1]
      generalize upd H a (.tup (([1, 2, 3, 4] : List Int).map V.int)) = H1 at *
      refine ⟨a, rfl, ⟨_, SqT.of ga⟩, fun D hD => ?_⟩
      refine lc_filtT (K := K) (a := a) (xs := ([1, 2, 3, 4] : List Int).map V.int) (fun v => inV v (([g, h] : List Int).map V.int)) (by decide) hD (SqT.of ga) (fun _ => rfl) (fun x H' Q hx s2 k => ?_) (fun x H' Q k => ⟨_, rfl, k⟩) (fun H' s2 gD => ?_)
      · obtain ⟨y, _, rfl⟩ := List.mem_map.mp hx
        refine ⟨_, rfl, _, rfl, _, rfl, pt, _, rfl, SqT.tk hT (Same.tk (s1.trans s2)), fun hw => absurd hw.1 (by show ¬ (HT.sIx 3 0 (some 1) = 0); decide), fun _ p hp => ?_⟩
        refine ⟨p, ([g, h] : List Int).map V.int, rfl, .inr (SqT.of upd_same), rfl, flat_ints _, _, rfl, k _ (same_new hp)⟩
      · rw [filt_ints _ (fun x => decide (x ∈ [g, h])) (fun y => inV_int y _)] at gD
        refine ⟨D, _, rfl, .inl ⟨SqL.of gD, fun t ht => ?_⟩⟩
        exact q _ _ ((s1.trans s2).trans (same_new ht)) (td_gs (gs := asc4 fun x => decide (x ∈ [g, h])) (SqT.of upd_same))
    | prod a b =>
      have ex : xs = [.str a, .str b] := by
        obtain ⟨x, r, rfl, h1, hA⟩ := hA.consI
        obtain ⟨y, r, rfl, h2, hA⟩ := hA.consI
        rw [h1.strI, h2.strI, hA.nilI]
      subst ex
      obtain ⟨⟨ga, ea⟩, gb, eb⟩ := hf
      obtain ⟨va, va1, va2⟩ := hkn.get ea
      obtain ⟨vb, vb1, vb2⟩ := hkn.get eb
      obtain ⟨aa, rfl, va3⟩ := va2.gs
      obtain ⟨ab, rfl, vb3⟩ := vb2.gs
      have la := (hko.at ea).len
      have lb := (hko.at eb).len
      refine ⟨_, rfl, rfl, _, rfl, ?_⟩
      refine (show (if decide (V.str _ = V.str _) = true then _ else _) from ifS_ne (by refine decide_eq_false ?_; dsimp only [Frm.word]; decide) ?_)
      refine ⟨_, rfl, rfl, _, rfl, ?_⟩
      refine (show (if decide (V.str _ = V.str _) = true then _ else _) from ifS_ne (by refine decide_eq_false ?_; dsimp only [Frm.word]; decide) ?_)
      refine ⟨_, rfl, rfl, _, rfl, ?_⟩
      refine (show (if decide (V.str _ = V.str _) = true then _ else _) from ifS_eq ?_)
      refine ⟨_, rfl, _, rfl, pt, _, 0, .str a, rfl, rfl, hT, rfl, kd, .ref aa, rfl, .inl ⟨_, .inr a, .inl gk, rfl, va1.symm⟩, ?_⟩
      refine ⟨_, rfl, _, rfl, pt, _, 1, .str b, rfl, rfl, hT, rfl, kd, .ref ab, rfl, .inl ⟨_, .inr b, .inl gk, rfl, vb1.symm⟩, ?_⟩
      refine catI (K := K) va3 vb3 (by rw [List.length_map, List.length_map]; omega) fun bt H0 s0 g0 => ?_
      rw [← List.map_append] at g0
      refine ⟨wide (show 4 ≤ 1000 by decide), fun t4 ha => ?_⟩
      have s1 := s0.trans (same_new (o := .tup (([1, 2, 3, 4] : List Int).map V.int)) ha)
      have g1 := SqT.tk g0 (Same.tk (same_new (o := .tup (([1, 2, 3, 4] : List Int).map V.int)) ha))
      have g4 : (upd H0 t4 (.tup (([1, 2, 3, 4] : List Int).map V.int))) t4 = some (.tup (([1, 2, 3, 4] : List Int).map V.int)) := upd_same
      have e1 : upd H0 t4 (.tup [.int 1, .int 2, .int 3, .int 4]) = upd H0 t4 (.tup (([1, 2, 3, 4] : List Int).map V.int)) := rfl
      rw [e1]
      generalize upd H0 t4 (.tup (([1, 2, 3, 4] : List Int).map V.int)) = H1 at *
      refine ⟨t4, rfl, ⟨_, SqT.of g4⟩, fun D hD => ?_⟩
      refine lc_filtT (K := K) (a := t4) (xs := ([1, 2, 3, 4] : List Int).map V.int) (fun v => inV v ((ga ++ gb).map V.int)) (by decide) hD (SqT.of g4) (fun _ => rfl) (fun x H' Q hx s2 k => ?_) (fun x H' Q k => ⟨_, rfl, k⟩) (fun H' s2 gD => ?_)
      · obtain ⟨y, _, rfl⟩ := List.mem_map.mp hx
        exact ⟨_, rfl, _, rfl, bt, _, rfl, .inr (SqT.tk g1 (Same.tk s2)), rfl, flat_ints _, _, rfl, k _ (Same.refl _)⟩
      · rw [filt_ints _ (fun x => decide (x ∈ ga ++ gb)) (fun y => inV_int y _)] at gD
        refine ⟨D, _, rfl, .inl ⟨SqL.of gD, fun t ht => ?_⟩⟩
        refine q _ _ ((s1.trans s2).trans (same_new ht)) ?_
        show Td K _ _ (gsD (asc4 fun x => decide (x ∈ (glk kn a).getD [] ++ (glk kn b).getD [])))
        rw [ea, eb]
        exact td_gs (SqT.of upd_same)
    | close g a =>
      have ex : xs = [.int g, .str a] := by
        obtain ⟨x, r, rfl, h1, hA⟩ := hA.consI
        obtain ⟨y, r, rfl, h2, hA⟩ := hA.consI
        rw [h1.intI, h2.strI, hA.nilI]
      subst ex
      obtain ⟨ga, ea, _⟩ := hf
      obtain ⟨va, va1, va2⟩ := hkn.get ea
      obtain ⟨aa, rfl, va3⟩ := va2.gs
      have la := (hko.at ea).len
      refine ⟨_, rfl, rfl, _, rfl, ?_⟩
      refine (show (if decide (V.str _ = V.str _) = true then _ else _) from ifS_ne (by refine decide_eq_false ?_; dsimp only [Frm.word]; decide) ?_)
      refine ⟨_, rfl, rfl, _, rfl, ?_⟩
      refine (show (if decide (V.str _ = V.str _) = true then _ else _) from ifS_ne (by refine decide_eq_false ?_; dsimp only [Frm.word]; decide) ?_)
      refine ⟨_, rfl, rfl, _, rfl, ?_⟩
      refine (show (if decide (V.str _ = V.str _) = true then _ else _) from ifS_ne (by refine decide_eq_false ?_; dsimp only [Frm.word]; decide) ?_)
      refine ⟨_, rfl, rfl, _, rfl, ?_⟩
      refine (show (if decide (V.str _ = V.str _) = true then _ else _) from ifS_eq ?_)
      refine ⟨_, rfl, _, rfl, pt, _, 1, .str a, rfl, rfl, hT, rfl, kd, .ref aa, rfl, .inl ⟨_, .inr a, .inl gk, rfl, va1.symm⟩, aa, rfl, ⟨_, va3⟩, fun D hD => ?_⟩
      refine lc_filtT (K := K) (a := aa) (xs := ga.map V.int) (fun v => !decide (v = .int g)) (by rw [List.length_map]; omega) hD va3 (fun _ => rfl) (fun x H' Q hx s2 k => ?_) (fun x H' Q k => ⟨_, rfl, k⟩) (fun H' s2 gD => ?_)
      · obtain ⟨y, _, rfl⟩ := List.mem_map.mp hx
        exact ⟨_, rfl, _, rfl, pt, _, 0, .int g, rfl, rfl, SqT.tk hT (Same.tk s2), rfl, rfl, _, rfl, k _ (Same.refl _)⟩
      · rw [filt_ints _ (fun x => !decide (x = g)) (fun y => by rw [show decide (V.int y = V.int g) = decide (y = g) from decide_eq_decide.mpr ⟨V.int.inj, congrArg V.int⟩])] at gD
        refine ⟨D, _, rfl, .inl ⟨SqL.of gD, fun t ht => ?_⟩⟩
        refine q _ _ (s2.trans (same_new ht)) ?_
        show Td K _ _ (gsD (((glk kn a).getD []).filter fun x => !decide (x = g)))
        rw [ea]
        exact td_gs (SqT.of upd_same)
    | turn g h a =>
      have ex : xs = [.int g, .int h, .str a] := by
        obtain ⟨x, r, rfl, h1, hA⟩ := hA.consI
        obtain ⟨y, r, rfl, h2, hA⟩ := hA.consI
        obtain ⟨z, r, rfl, h3, hA⟩ := hA.consI
        rw [h1.intI, h2.intI, h3.strI, hA.nilI]
      subst ex
      obtain ⟨hgh, hg, hh, ga, ea, _⟩ := hf
      obtain ⟨va, va1, va2⟩ := hkn.get ea
      obtain ⟨aa, rfl, va3⟩ := va2.gs
      have la := (hko.at ea).len
      refine ⟨_, rfl, rfl, _, rfl, ?_⟩
      refine (show (if decide (V.str _ = V.str _) = true then _ else _) from ifS_ne (by refine decide_eq_false ?_; dsimp only [Frm.word]; decide) ?_)
      refine ⟨_, rfl, rfl, _, rfl, ?_⟩
      refine (show (if decide (V.str _ = V.str _) = true then _ else _) from ifS_ne (by refine decide_eq_false ?_; dsimp only [Frm.word]; decide) ?_)
      refine ⟨_, rfl, rfl, _, rfl, ?_⟩
      refine (show (if decide (V.str _ = V.str _) = true then _ else _) from ifS_ne (by refine decide_eq_false ?_; dsimp only [Frm.word]; decide) ?_)
      refine ⟨_, rfl, rfl, _, rfl, ?_⟩
      refine (show (if decide (V.str _ = V.str _) = true then _ else _) from ifS_ne (by refine decide_eq_false ?_; dsimp only [Frm.word]; decide) ?_)
      refine ⟨_, rfl, rfl, _, rfl, ?_⟩
      refine (show (if decide (V.str _ = V.str _) = true then _ else _) from ifS_eq ?_)
      refine fun d hd => ?_
      have s0 := same_new (o := .dK []) hd
      have hT0 := SqT.tk hT (Same.tk s0)
      refine ⟨_, rfl, pt, _, 0, .int g, rfl, rfl, hT0, rfl, _, rfl, pt, _, 1, .int h, rfl, rfl, hT0, rfl, _, rfl, pt, _, 1, .int h, rfl, rfl, hT0, rfl, _, rfl, pt, _, 0, .int g, rfl, rfl, hT0, rfl, ?_⟩
      refine ⟨upd_same, (swD g h), rfl, by show 2 ≤ 15; decide, ?_⟩
      have em : mergeK [] (swD g h) = swD g h := by
        exact swD_merge hgh
      rw [em]
      have s1 : Same H (upd (upd H d (.dK [])) d (.dK (swD g h))) := fun b o e => by
        rw [upd_ne (ne_of_none e hd), upd_ne (ne_of_none e hd)]
        exact e
      have g1 : (upd (upd H d (.dK [])) d (.dK (swD g h))) d = some (.dK (swD g h)) := upd_same
      generalize upd (upd H d (.dK [])) d (.dK (swD g h)) = H1 at *
      have hT1 := SqT.tk hT (Same.tk s1)
      have va4 := SqT.tk va3 (Same.tk s1)
      refine ⟨_, rfl, _, rfl, pt, _, 2, .str a, rfl, rfl, hT1, rfl, kd, .ref aa, rfl, .inl ⟨_, .inr a, .inl (s1 _ _ gk), rfl, va1.symm⟩, aa, rfl, ⟨_, va4⟩, fun D hD => ?_⟩
      refine lc_mapT (K := K) (a := aa) (xs := ga.map V.int) (swF g h) (by rw [List.length_map]; omega) hD va4 (fun _ => rfl) (fun x H' Q k => k) (fun x H' Q hx s2 k => ?_) (fun H' s2 gD => ?_)
      · obtain ⟨y, _, rfl⟩ := List.mem_map.mp hx
        exact ⟨_, rfl, d, rfl, .inl ⟨_, .inl (s2 _ _ g1)⟩, _, rfl, _, rfl, _, .inl ⟨_, .inl y, .inl (s2 _ _ g1), rfl, rfl⟩, k _ (Same.refl _)⟩
      · have ef : (ga.map V.int).map (swF g h) = (ga.map (swp g h)).map V.int := by
          exact swF_map g h ga
        rw [ef] at gD
        refine ⟨D, ga.map (swp g h), rfl, SqL.of gD, by rw [List.length_map]; omega, fun ns L pm hs hL => ?_⟩
        refine ⟨L, _, rfl, .inl ⟨SqL.of upd_same, fun t ht => ?_⟩⟩
        refine q _ _ (((s1.trans s2).trans (same_new hL)).trans (same_new ht)) ?_
        show Td K _ _ (gsD (asc4 fun x => decide (x ∈ ((glk kn a).getD []).map (swp g h))))
        rw [ea]
        have en : ns = asc4 fun x => decide (x ∈ ((some ga).getD []).map (swp g h)) := by
          exact swp_sorted (hko.at ea) hg hh pm hs
        rw [← en]
        exact td_gs (SqT.of upd_same)
    | add fs =>
      obtain ⟨hn, _, _, gs, hfs⟩ := hf
      cases fs with
      | nil => exact absurd rfl hn
      | cons f r =>
        have ef := hfs f List.mem_cons_self
        obtain ⟨x, r', rfl, h1, hA⟩ := hA.consI
        obtain ⟨p0, ys, rfl, hT0, hA0⟩ := h1.tupI
        obtain ⟨y, r2, rfl, h2, hA0⟩ := hA0.consI
        obtain ⟨z, r3, rfl, h3, hA1⟩ := hA0.consI
        cases h3.strI
        cases hA1.nilI
        obtain ⟨va, va1, va2⟩ := hkn.get ef
        refine ⟨_, rfl, rfl, _, rfl, ?_⟩
        refine (show (if decide (V.str _ = V.str _) = true then _ else _) from ifS_ne (by refine decide_eq_false ?_; dsimp only [Frm.word]; decide) ?_)
        refine ⟨_, rfl, rfl, _, rfl, ?_⟩
        refine (show (if decide (V.str _ = V.str _) = true then _ else _) from ifS_ne (by refine decide_eq_false ?_; dsimp only [Frm.word]; decide) ?_)
        refine ⟨_, rfl, rfl, _, rfl, ?_⟩
        refine (show (if decide (V.str _ = V.str _) = true then _ else _) from ifS_ne (by refine decide_eq_false ?_; dsimp only [Frm.word]; decide) ?_)
        refine ⟨_, rfl, rfl, _, rfl, ?_⟩
        refine (show (if decide (V.str _ = V.str _) = true then _ else _) from ifS_ne (by refine decide_eq_false ?_; dsimp only [Frm.word]; decide) ?_)
        refine ⟨_, rfl, rfl, _, rfl, ?_⟩
        refine (show (if decide (V.str _ = V.str _) = true then _ else _) from ifS_ne (by refine decide_eq_false ?_; dsimp only [Frm.word]; decide) ?_)
        refine ⟨_, rfl, _, rfl, pt, _, 0, .ref p0, rfl, rfl, hT, atI_nat (j := 0) rfl, p0, _, 1, .str f.2, rfl, rfl, hT0, rfl, kd, va, rfl, .inl ⟨_, .inr f.2, .inl gk, rfl, va1.symm⟩, q _ _ (Same.refl H) ?_⟩
        show Td K _ _ (gsD ((glk kn f.2).getD []))
        rw [ef]
        exact va2
end
end OG
set_option Elab.async false
set_option linter.all false
set_option maxRecDepth 100000
set_option maxHeartbeats 8000000
namespace OG
open PySem PySem.Spec PyProof.Rows L2
/-- a line that can stand behind what is known -/
structure LnOk (kn : Kn) (l : Ln) : Prop where
  new : l.nm ∉ kn.map (·.1)
  nm : lnmB l.nm = true
  fm : FrmOk kn l.fm
def LnsOk : Kn → List Ln → Prop
  | _, [] => True
  | kn, l :: r => LnOk kn l ∧ LnsOk (kn ++ [(l.nm, l.fm.gates kn)]) r
theorem knOf_snoc : ∀ {kn : Kn} {xs : List Ln} {l : Ln}, knOf kn (xs ++ [l]) = knOf kn xs ++ [(l.nm, l.fm.gates (knOf kn xs))]
  | kn, [], l => rfl
  | kn, x :: r, l => knOf_snoc (kn := kn ++ [(x.nm, x.fm.gates kn)]) (xs := r)
theorem knOf_take {kn : Kn} {xs : List Ln} {i : Nat} {l : Ln} (h : xs[i]? = some l) : knOf kn (xs.take (i + 1)) = knOf kn (xs.take i) ++ [(l.nm, l.fm.gates (knOf kn (xs.take i)))] := by
  rw [take_more h]
  exact knOf_snoc
theorem LnsOk.at : ∀ {kn : Kn} {xs : List Ln} {i : Nat} {l : Ln}, LnsOk kn xs → xs[i]? = some l → LnOk (knOf kn (xs.take i)) l
  | kn, [], i, l, _, h => by simp at h
  | kn, x :: r, 0, l, h, e => by
    cases Option.some.inj e
    exact h.1
  | kn, x :: r, i + 1, l, h, e => LnsOk.at (kn := kn ++ [(x.nm, x.fm.gates kn)]) (xs := r) (i := i) h.2 e
theorem LnsOk.snoc : ∀ {kn : Kn} {xs : List Ln} {l : Ln}, LnsOk kn xs → LnOk (knOf kn xs) l → LnsOk kn (xs ++ [l])
  | kn, [], l, _, h => ⟨h, trivial⟩
  | kn, x :: r, l, h, e => ⟨h.1, LnsOk.snoc (kn := kn ++ [(x.nm, x.fm.gates kn)]) (xs := r) h.2 e⟩
theorem LnsOk.take : ∀ {kn : Kn} {xs : List Ln} (i : Nat), LnsOk kn xs → LnsOk kn (xs.take i)
  | kn, [], i, _ => by rw [List.take_nil]; trivial
  | kn, x :: r, 0, h => trivial
  | kn, x :: r, i + 1, h => ⟨h.1, LnsOk.take (kn := kn ++ [(x.nm, x.fm.gates kn)]) (xs := r) i h.2⟩
theorem KnOk.snoc {kn : Kn} {l : Ln} (h : KnOk kn) (o : LnOk kn l) : KnOk (kn ++ [(l.nm, l.fm.gates kn)]) := by
  refine ⟨?_, fun p hp => ?_⟩
  · rw [List.map_append, List.nodup_append]
    refine ⟨h.nd, by simp, fun a ha b hb e => ?_⟩
    have hb : b = l.nm := by simpa using hb
    subst hb
    subst e
    exact o.new ha
  · rcases List.mem_append.mp hp with hp | hp
    · exact h.gs p hp
    · rw [List.mem_singleton.mp hp]
      exact o.fm.gsok h
theorem KnOk.of : ∀ {kn : Kn} {xs : List Ln}, KnOk kn → LnsOk kn xs → KnOk (knOf kn xs)
  | kn, [], h, _ => h
  | kn, x :: r, h, o => KnOk.of (kn := kn ++ [(x.nm, x.fm.gates kn)]) (xs := r) (h.snoc o.1) o.2
theorem KnOk.nil : KnOk [] := ⟨List.nodup_nil, fun p hp => by cases hp⟩
theorem knOf_names : ∀ {kn : Kn} {xs : List Ln}, (knOf kn xs).map (·.1) = kn.map (·.1) ++ xs.map (·.nm)
  | kn, [] => by rw [List.map_nil, List.append_nil]; rfl
  | kn, x :: r => by
    show (knOf (kn ++ [(x.nm, x.fm.gates kn)]) r).map (·.1) = _
    rw [knOf_names, List.map_append, List.append_assoc]
    rfl
theorem knOf_len {kn : Kn} {xs : List Ln} : (knOf kn xs).length = kn.length + xs.length := by
  have := congrArg List.length (knOf_names (kn := kn) (xs := xs))
  rw [List.length_map, List.length_append, List.length_map, List.length_map] at this
  exact this
theorem knOf_pre : ∀ {kn : Kn} {xs : List Ln}, ∃ t, knOf kn xs = kn ++ t
  | kn, [] => ⟨[], (List.append_nil kn).symm⟩
  | kn, x :: r => by
    obtain ⟨t, e⟩ := knOf_pre (kn := kn ++ [(x.nm, x.fm.gates kn)]) (xs := r)
    exact ⟨_, e.trans (List.append_assoc _ _ _)⟩
theorem knOf_app : ∀ {kn : Kn} {xs ys : List Ln}, knOf kn (xs ++ ys) = knOf (knOf kn xs) ys
  | kn, [], ys => rfl
  | kn, x :: r, ys => knOf_app (kn := kn ++ [(x.nm, x.fm.gates kn)]) (xs := r)
theorem glk_knOf {xs : List Ln} (ok : LnsOk [] xs) {i : Nat} {l : Ln} (h : xs[i]? = some l) : glk (knOf [] xs) l.nm = some (l.fm.gates (knOf [] (xs.take i))) := by
  refine glk_mem (KnOk.of KnOk.nil ok).nd ?_
  have e : knOf [] xs = knOf (knOf [] (xs.take (i + 1))) (xs.drop (i + 1)) := by rw [← knOf_app, List.take_append_drop]
  obtain ⟨t, et⟩ := knOf_pre (kn := knOf [] (xs.take (i + 1))) (xs := xs.drop (i + 1))
  rw [e, et, knOf_take h]
  exact List.mem_append_left _ (List.mem_append_right _ List.mem_cons_self)
/-! texts -/
def facT (f : Fac) : Str := if f.2 = 1 then istr f.1 else istr f.1 ++ "/" ++ istr f.2
def dW : PyData → List Str
  | .str z => [z]
  | .int i => [istr i]
  | .tuple [.tuple [.int a, .int b], .str z] => [facT (a, b), z]
  | _ => []
def lineW (l : Ln) : List Str := match l.fm with
  | .prod a b => [l.nm, "=", a, "*", b]
  | f => [l.nm, "=", f.word] ++ (f.partsL.map dW).flatten
def lineT (l : Ln) : Str := Txt.join " " (lineW l)
def textT (ls : List Ln) : Str := Txt.join "\n" ("script" :: ls.map lineT)
theorem istr_sml {i : Int} (h : i.natAbs ≤ 1000) : (istr i).length ≤ 14 := istr_len (by omega) (by omega)
theorem FacOk.low' {f : Fac} (h : FacOk f) : (facT f).length ≤ 29 := by
  have h1 := istr_sml h.sml.1
  have h2 : (istr f.2).length ≤ 14 := istr_sml (by have := h.sml.2; have := h.low; omega)
  unfold facT
  split
  · omega
  · rw [app_len, app_len]
    exact Nat.add_le_add (Nat.add_le_add_right h1 1) h2
def FrmFit : Frm → Prop
  | .one gs => GsOk gs
  | .road k g h => k.length ≤ 20 ∧ (1 ≤ g ∧ g ≤ 4) ∧ 1 ≤ h ∧ h ≤ 4
  | .prod a b => a.length ≤ 20 ∧ b.length ≤ 20
  | .close g a => (1 ≤ g ∧ g ≤ 4) ∧ a.length ≤ 20
  | .turn g h a => (1 ≤ g ∧ g ≤ 4) ∧ (1 ≤ h ∧ h ≤ 4) ∧ a.length ≤ 20
  | .add fs => fs.length ≤ 100 ∧ ∀ f ∈ fs, FacOk f.1 ∧ f.2.length ≤ 20
theorem gs_istr {g : Int} (h : 1 ≤ g ∧ g ≤ 4) : (istr g).length ≤ 14 := istr_sml (by omega)
theorem FrmFit.parts {f : Frm} (h : FrmFit f) : f.partsL.length ≤ 100 ∧ ∀ d ∈ f.partsL, (dW d).length ≤ 2 ∧ ∀ z ∈ dW d, z.length ≤ 30 := by
  have one : ∀ {z : Str}, z.length ≤ 20 → (dW (.str z)).length ≤ 2 ∧ ∀ y ∈ dW (.str z), y.length ≤ 30 := fun hz => ⟨by show 1 ≤ 2; decide, fun y hy => by
    rw [List.mem_singleton.mp hy]
    omega⟩
  have int : ∀ {g : Int}, (1 ≤ g ∧ g ≤ 4) → (dW (.int g)).length ≤ 2 ∧ ∀ y ∈ dW (.int g), y.length ≤ 30 := fun hz => ⟨by show 1 ≤ 2; decide, fun y hy => by
    rw [List.mem_singleton.mp hy]
    have := gs_istr hz
    omega⟩
  cases f with
  | one gs =>
    have hg : GsOk gs := h
    have := hg.len
    refine ⟨?_, fun d hd => ?_⟩
    · show (gs.map PyData.int).length ≤ 100
      rw [List.length_map]
      omega
    · obtain ⟨g, hg', rfl⟩ := List.mem_map.mp hd
      exact int (hg.rng g hg')
  | road k g h' =>
    obtain ⟨h1, h2, h3⟩ := h
    refine ⟨by show 3 ≤ 100; decide, fun d hd => ?_⟩
    have hd : d ∈ [PyData.str k, .int g, .int h'] := hd
    simp only [List.mem_cons, List.mem_nil_iff, or_false] at hd
    rcases hd with rfl | rfl | rfl
    · exact one h1
    · exact int h2
    · exact int h3
  | prod a b =>
    obtain ⟨h1, h2⟩ := h
    refine ⟨by show 2 ≤ 100; decide, fun d hd => ?_⟩
    have hd : d ∈ [PyData.str a, .str b] := hd
    simp only [List.mem_cons, List.mem_nil_iff, or_false] at hd
    rcases hd with rfl | rfl
    · exact one h1
    · exact one h2
  | close g a =>
    obtain ⟨h1, h2⟩ := h
    refine ⟨by show 2 ≤ 100; decide, fun d hd => ?_⟩
    have hd : d ∈ [PyData.int g, .str a] := hd
    simp only [List.mem_cons, List.mem_nil_iff, or_false] at hd
    rcases hd with rfl | rfl
    · exact int h1
    · exact one h2
  | turn g h' a =>
    obtain ⟨h1, h2, h3⟩ := h
    refine ⟨by show 3 ≤ 100; decide, fun d hd => ?_⟩
    have hd : d ∈ [PyData.int g, .int h', .str a] := hd
    simp only [List.mem_cons, List.mem_nil_iff, or_false] at hd
    rcases hd with rfl | rfl | rfl
    · exact int h1
    · exact int h2
    · exact one h3
  | add fs =>
    obtain ⟨h1, h2⟩ := h
    refine ⟨?_, fun d hd => ?_⟩
    · show (fs.map fun f => PyData.tuple [facD f.1, .str f.2]).length ≤ 100
      rw [List.length_map]
      exact h1
    · obtain ⟨f, hf, rfl⟩ := List.mem_map.mp hd
      obtain ⟨f1, f2⟩ := h2 f hf
      refine ⟨by show 2 ≤ 2; decide, fun z hz => ?_⟩
      have hz : z ∈ [facT f.1, f.2] := hz
      simp only [List.mem_cons, List.mem_nil_iff, or_false] at hz
      rcases hz with rfl | rfl
      · have := f1.low'
        omega
      · omega
theorem flat2 : ∀ {ds : List PyData} {n : Nat}, ds.length ≤ n → (∀ d ∈ ds, (dW d).length ≤ 2 ∧ ∀ z ∈ dW d, z.length ≤ 30) → ((ds.map dW).flatten).length ≤ 2 * n ∧ ∀ z ∈ (ds.map dW).flatten, z.length ≤ 30
  | [], n, _, _ => ⟨by show 0 ≤ 2 * n; omega, fun z hz => by cases hz⟩
  | d :: r, 0, h, _ => by simp at h
  | d :: r, n + 1, h, hd => by
    have ih := flat2 (ds := r) (n := n) (by simpa using h) fun d hd' => hd d (List.mem_cons_of_mem _ hd')
    have h1 := hd d List.mem_cons_self
    refine ⟨?_, fun z hz => ?_⟩
    · rw [List.map_cons, List.flatten_cons, List.length_append]
      omega
    · rw [List.map_cons, List.flatten_cons] at hz
      rcases List.mem_append.mp hz with hz | hz
      · exact h1.2 z hz
      · exact ih.2 z hz
/-- a line whose text is short -/
structure LnFit (l : Ln) : Prop where
  nm : l.nm.length ≤ 20
  fm : FrmFit l.fm
theorem word_len (f : Frm) : f.word.length ≤ 5 := by cases f <;> (dsimp only [Frm.word]; decide)
theorem LnFit.words {l : Ln} (h : LnFit l) : (lineW l).length ≤ 203 ∧ ∀ z ∈ lineW l, z.length ≤ 30 := by
  have gen : ([l.nm, "=", l.fm.word] ++ (l.fm.partsL.map dW).flatten).length ≤ 203 ∧ ∀ z ∈ [l.nm, "=", l.fm.word] ++ (l.fm.partsL.map dW).flatten, z.length ≤ 30 := by
    have f2 := flat2 h.fm.parts.1 h.fm.parts.2
    refine ⟨?_, fun z hz => ?_⟩
    · rw [List.length_append]
      have := f2.1
      show 3 + _ ≤ 203
      omega
    · rcases List.mem_append.mp hz with hz | hz
      · simp only [List.mem_cons, List.mem_nil_iff, or_false] at hz
        have := h.nm
        have := word_len l.fm
        rcases hz with rfl | rfl | rfl
        · omega
        · decide
        · omega
      · exact f2.2 z hz
  obtain ⟨nm, fm⟩ := l
  cases fm with
  | prod a b =>
    obtain ⟨h0, h1, h2⟩ := h
    have h0 : nm.length ≤ 20 := h0
    refine ⟨by show 5 ≤ 203; decide, fun z hz => ?_⟩
    have hz : z ∈ [nm, "=", a, "*", b] := hz
    simp only [List.mem_cons, List.mem_nil_iff, or_false] at hz
    rcases hz with rfl | rfl | rfl | rfl | rfl
    · omega
    · decide
    · omega
    · decide
    · omega
  | one _ => exact gen
  | road _ _ _ => exact gen
  | close _ _ => exact gen
  | turn _ _ _ => exact gen
  | add _ => exact gen
end OG
set_option Elab.async false
set_option linter.all false
set_option maxRecDepth 100000
set_option maxHeartbeats 8000000
namespace OG
open PySem PySem.Spec PyProof.Rows L2
theorem TdAll.lnAt {K : PySem.W.Frag} {H : Hp} {xs : List V} {lns : List Ln} (h : TdAll K H xs (lns.map Ln.data)) {i : Nat} {x : V} (e : xs[i]? = some x) : ∃ l, lns[i]? = some l ∧ Td K H x l.data := by
  obtain ⟨d, h1, h2⟩ := h.atV e
  rw [List.getElem?_map] at h1
  cases q : lns[i]? with
  | none =>
    rw [q] at h1
    cases h1
  | some l =>
    rw [q] at h1
    cases Option.some.inj h1
    exact ⟨l, rfl, h2⟩
theorem TdAll.lnLen {K : PySem.W.Frag} {H : Hp} {xs : List V} {lns : List Ln} (h : TdAll K H xs (lns.map Ln.data)) : xs.length = lns.length := by
  rw [h.len, List.length_map]
theorem Td.ln {K : PySem.W.Frag} {H : Hp} {x : V} {l : Ln} (h : Td K H x l.data) : ∃ a p, x = .ref a ∧ SqT K H a [.str l.nm, .str l.fm.word, .ref p] ∧ Td K H (.ref p) (.tuple l.fm.partsL) := by
  obtain ⟨a, xs, rfl, h1, hA⟩ := h.tupI
  obtain ⟨x, r, rfl, e1, hA⟩ := hA.consI
  obtain ⟨y, r, rfl, e2, hA⟩ := hA.consI
  obtain ⟨z, r, rfl, e3, hA⟩ := hA.consI
  cases hA.nilI
  cases e1.strI
  cases e2.strI
  obtain ⟨p, ys, rfl, _, _⟩ := e3.tupI
  exact ⟨a, p, rfl, h1, e3⟩
section
variable {P : Program} {w : World} {K : PySem.W.Frag} {mg : Str → Option Value} {base : Heap}
def spGates (K : PySem.W.Frag) : Sp := fun vs H Q _ => ∃ (lp : Addr) (xs : List V) (lns : List Ln), vs = [.ref lp] ∧ SqL K H lp xs ∧ TdAll K H xs (lns.map Ln.data) ∧ LnsOk [] lns ∧ lns.length ≤ 1000 ∧
  ∀ (kd : Addr) (kvs : List (Key × V)) (H' : Hp), Same H H' → H kd = none → H' kd = some (.dK kvs) → KnD K H' kvs (knOf [] lns) → Q (.ref kd) H'
theorem ok_l_script_gates (T : Txt K mg) : FnOk P w K mg base CX0 4 T.f_l_script_gates T.fd_l_script_gates ["lines"] (spGates K) := by
  refine T.F_l_script_gates.ok sc_l_script_gates (fun vs H Q E h => ?_) (fun cdv A outer s H vs Q E hr h => ?_)
  · obtain ⟨lp, xs, lns, rfl, _⟩ := h
    rfl
  · obtain ⟨lp, xs, lns, rfl, hL, hA, ok, hn, q⟩ := h
    refine ⟨_, (pss_cons (ps_set (i := 1) sc_l_script_gates.nd rfl (Or.inl rfl) pe_dnewK)
  (pss_cons (ps_for PassesOwn.never rfl (pi_list (pv 0)) (pg_tup (by rfl) (pgs_cons (pg_name (i := 2) sc_l_script_gates.nd rfl (Or.inl rfl)) (pgs_cons (pg_name (i := 3) sc_l_script_gates.nd rfl (Or.inl rfl)) (pgs_cons (pg_name (i := 4) sc_l_script_gates.nd rfl (Or.inl rfl)) pgs_nil)))) (pss_one (ps_dput (hu_of hr) (pv 1) (pv 2) (pe_call (ok_l_script_line_gates T) (hr.mono (by decide)) (by rfl) T.g_l_script_line_gates T.F_l_script_line_gates.kp T.b_l_script_line_gates .nil pass0 (pa_cons (pv 1) (pa_cons (pv 3) (pa_cons (pv 4) pa_nil)))) rfl)))
  (pss_one (ps_ret (pv 1))))), ?_⟩
    have len := hA.lnLen
    refine fun kd hkd => ?_
    refine ⟨.ref lp, rfl, lp, rfl, ⟨_, SqL.ext hL (same_new hkd)⟩, ?_⟩
    refine for_list (K := K) (a := lp) (xs := xs) (fun i σ H' => ∃ (u2 u3 u4 : Option V) (kvs : List (Key × V)), σ = [some (.ref lp), some (.ref kd), u2, u3, u4] ∧ Same H H' ∧ H' kd = some (.dK kvs) ∧ KnD K H' kvs (knOf [] (lns.take i)))
      ⟨_, _, _, _, rfl, same_new hkd, upd_same, .nil⟩ (fun i σ H' _ ⟨_, _, _, _, _, s, _, _⟩ => SqL.ext hL s) ?_ ?_
    · rintro i x σ H' hx ⟨u2, u3, u4, kvs, rfl, s, gk, hk⟩
      obtain ⟨l, hl, hd⟩ := hA.lnAt hx
      obtain ⟨a, p, rfl, ha, hp⟩ := hd.ln
      have o := ok.at hl
      have ko := KnOk.of KnOk.nil (ok.take i)
      refine ⟨a, _, rfl, SqT.tk ha (Same.tk s), rfl, _, _, rfl, _, _, rfl, _, _, rfl, rfl, ?_⟩
      refine ⟨_, rfl, _, rfl, _, rfl, kd, p, _, kvs, l.fm, rfl, gk, hk, ko, o.fm, hp.mv (Same.tk s), fun v H2 s2 gv => ?_⟩
      refine ⟨_, rfl, _, rfl, kd, _, rfl, .inl ⟨kvs, .inr l.nm, s2 _ _ gk, rfl, ?_, rfl⟩, ?_⟩
      · rw [hk.len, knOf_len, List.length_take]
        exact Nat.lt_of_le_of_lt (show 0 + min i lns.length ≤ 1000 by omega) (by decide)
      have nk : valV kvs (.inr l.nm) = none := hk.no (glk_none.mpr o.new)
      have tk := tk_dK (s2 _ _ gk) (o := .dK (putK kvs (.inr l.nm) v))
      refine ⟨_, _, _, _, rfl, fun b u hu => ?_, upd_same, ?_⟩
      · rw [upd_ne (ne_of_none hu hkd)]
        exact s2 _ _ (s _ _ hu)
      · rw [putK_new _ nk, knOf_take hl]
        rw [putK_new _ nk] at tk
        exact KnD.snoc (gv.mv tk) ((hk.mv (Same.tk s2)).mv tk)
    · rintro σ H' ⟨u2, u3, u4, kvs, rfl, s, gk, hk⟩
      rw [len, List.take_length] at hk
      exact ⟨_, rfl, q kd kvs H' s hkd gk hk⟩
theorem knOf_at {lns : List Ln} {i : Nat} {l : Ln} (h : lns[i]? = some l) : (knOf [] lns)[i]? = some (l.nm, l.fm.gates (knOf [] (lns.take i))) := by
  have e : knOf [] lns = knOf (knOf [] (lns.take (i + 1))) (lns.drop (i + 1)) := by rw [← knOf_app, List.take_append_drop]
  obtain ⟨t, et⟩ := knOf_pre (kn := knOf [] (lns.take (i + 1))) (xs := lns.drop (i + 1))
  have hi := (List.getElem?_eq_some_iff.mp h).1
  have hl : (knOf [] (lns.take i)).length = i := by
    rw [knOf_len, List.length_take]
    simp
    omega
  rw [e, et, knOf_take h, List.append_assoc, List.getElem?_append_right (by omega), hl, Nat.sub_self]
  rfl
def widthL (lns : List Ln) : Nat := ((knOf [] lns).map (·.2.length)).foldl max 0
theorem fold_max : ∀ (xs : List Nat) (m : Nat), m ≤ xs.foldl max m ∧ (∀ x ∈ xs, x ≤ xs.foldl max m) ∧ (xs.foldl max m = m ∨ xs.foldl max m ∈ xs)
  | [], m => ⟨Nat.le_refl _, fun x h => (by cases h), .inl rfl⟩
  | x :: r, m => by
    obtain ⟨h1, h2, h3⟩ := fold_max r (max m x)
    show m ≤ r.foldl max (max m x) ∧ (∀ y ∈ x :: r, y ≤ r.foldl max (max m x)) ∧ (r.foldl max (max m x) = m ∨ r.foldl max (max m x) ∈ x :: r)
    refine ⟨by omega, fun y hy => ?_, ?_⟩
    · rcases List.mem_cons.mp hy with rfl | hy
      · omega
      · exact h2 y hy
    · rcases h3 with h3 | h3
      · by_cases e : m ≤ x
        · right
          rw [h3, Nat.max_eq_right e]
          exact List.mem_cons_self
        · left
          rw [h3]
          omega
      · exact .inr (List.mem_cons_of_mem _ h3)
theorem max_is {ns : List Int} {xs : List Nat} (e : ns = xs.map Int.ofNat) {m : Int} (hm : m ∈ ns) (hh : ∀ y, y ∈ ns → y ≤ m) : m = (xs.foldl max 0 : Nat) := by
  subst e
  obtain ⟨h1, h2, h3⟩ := fold_max xs 0
  obtain ⟨x, hx, rfl⟩ := List.mem_map.mp hm
  have a := h2 x hx
  rcases h3 with h3 | h3
  · have : x = 0 := by omega
    rw [h3, this]
    rfl
  · have b := hh _ (List.mem_map_of_mem h3)
    have : xs.foldl max 0 ≤ x := by
      have : Int.ofNat (xs.foldl max 0) ≤ Int.ofNat x := b
      exact Int.ofNat_le.mp this
    have : x = xs.foldl max 0 := by omega
    rw [← this]
    rfl
def spWidth (K : PySem.W.Frag) : Sp := fun vs H Q _ => ∃ (lp : Addr) (xs : List V) (lns : List Ln), vs = [.ref lp] ∧ SqL K H lp xs ∧ TdAll K H xs (lns.map Ln.data) ∧ LnsOk [] lns ∧ lns ≠ [] ∧ lns.length ≤ 1000 ∧
  ∀ (H' : Hp), Same H H' → Q (.int (widthL lns : Nat)) H'
theorem ok_l_script_width (T : Txt K mg) : FnOk P w K mg base CX0 5 T.f_l_script_width T.fd_l_script_width ["lines"] (spWidth K) := by
  refine T.F_l_script_width.ok sc_l_script_width (fun vs H Q E h => ?_) (fun cdv A outer s H vs Q E hr h => ?_)
  · obtain ⟨lp, xs, lns, rfl, _⟩ := h
    rfl
  · obtain ⟨lp, xs, lns, rfl, hL, hA, ok, h0, hn, q⟩ := h
    refine ⟨_, (pss_cons (ps_set (i := 1) sc_l_script_width.nd rfl (Or.inr rfl) (pe_call (ok_l_script_gates T) (hr.mono (by decide)) (by rfl) T.g_l_script_gates T.F_l_script_gates.kp T.b_l_script_gates .nil pass0 (pa_cons (pv 0) pa_nil)))
  (pss_one (ps_ret (pe_callB (cr_max rfl) (by rfl) T.n_max (by decide +kernel) (pa_cons (pe_lc (own := [("line", 2)]) (g := gName 2) (by rfl) sc_l_script_width.nd (pi_list (pv 0)) (blkOk_by (own := [("line", 2)]) (by rfl)) (fun _ _ _ _ _ => (pg_name (i := 2) sc_l_script_width.nd rfl (Or.inl rfl))) (fun _ _ _ _ _ => pts_nil) (fun _ _ _ _ _ => (pe_callB (call_len_seqK K) (by rfl) T.n_len PySem.boot_len (pa_cons (pe_dget (hu_of hr) (pv 1) (pe_ix (ix_tupK K) (pv 2) pe_int (fun _ _ => rfl)) (fun _ _ => rfl)) pa_nil)))) pa_nil))))), ?_⟩
    have len := hA.lnLen
    refine ⟨.ref lp, rfl, lp, xs, lns, rfl, hL, hA, ok, hn, fun kd kvs H1 s1 hkd gk hk => ?_⟩
    refine ⟨.ref lp, rfl, lp, rfl, ⟨_, SqL.ext hL s1⟩, fun D hD => ?_⟩
    let ns : List Int := ((knOf [] lns).map (·.2.length)).map Int.ofNat
    have nl : ns.length = lns.length := by
      show (((knOf [] lns).map (·.2.length)).map Int.ofNat).length = lns.length
      rw [List.length_map, List.length_map, knOf_len]
      simp
    have at' : ∀ {i : Nat} {l : Ln}, lns[i]? = some l → ns[i]? = some ((l.fm.gates (knOf [] (lns.take i))).length : Int) := by
      intro i l hl
      show (((knOf [] lns).map (·.2.length)).map Int.ofNat)[i]? = _
      rw [List.getElem?_map, List.getElem?_map, knOf_at hl]
      rfl
    refine lc_list (K := K) (a := lp) (xs := xs) (fun i H' => Same H1 H' ∧ H' D = some (.lst ((ns.take i).map V.int))) ⟨same_new hD, upd_same⟩ (fun i H' _ ⟨s, _⟩ => SqL.ext hL (s1.trans s)) ?_ ?_
    · rintro i x H' hx ⟨s, g⟩
      obtain ⟨l, hl, hd⟩ := hA.lnAt hx
      obtain ⟨a, p, rfl, ha, hp⟩ := hd.ln
      have gl := glk_knOf ok hl
      obtain ⟨v, v1, v2⟩ := hk.get gl
      obtain ⟨va, rfl, v3⟩ := v2.gs
      refine ⟨rfl, ?_⟩
      refine ⟨_, rfl, _, rfl, a, _, 0, .str l.nm, rfl, rfl, SqT.tk ha (Same.tk (s1.trans s)), rfl, kd, .ref va, rfl, .inl ⟨kvs, .inr l.nm, .inl (s _ _ gk), rfl, v1.symm⟩, ?_⟩
      refine ⟨va, _, rfl, .inr (SqT.tk v3 (Same.tk s)), _, g, ?_, fun b u hu => ?_, ?_⟩
      · rw [List.length_map, List.length_take]
        exact Nat.lt_of_le_of_lt (show min i ns.length ≤ 1000 by omega) (by decide)
      · rw [upd_ne (ne_of_none hu hD)]
        exact s _ _ hu
      · rw [upd_same, take_more (at' hl), List.map_append, List.length_map]
        rfl
    · rintro H' ⟨s, g⟩
      rw [len, ← nl, List.take_length] at g
      refine ⟨D, ns, rfl, SqL.of g, ?_, fun m hm hh => ?_⟩
      · rw [nl]
        exact List.length_pos_iff.mpr h0
      · rw [max_is rfl hm hh]
        exact q H' (s1.trans s)
end
end OG
set_option Elab.async false
set_option linter.all false
set_option maxRecDepth 100000
set_option maxHeartbeats 8000000
namespace OG
open PySem PySem.Spec PyProof.Rows L2
section
variable {P : Program} {w : World} {K : PySem.W.Frag} {mg : Str → Option Value} {base : Heap}
def spFacT (K : PySem.W.Frag) : Sp := fun vs H Q _ => ∃ (a : Addr) (f : Fac), vs = [.ref a] ∧ SqT K H a [.int f.1, .int f.2] ∧ FacOk f ∧ Q (.str (facT f)) H
theorem ok_l_script_factor_text (T : Txt K mg) : FnOk P w K mg base CX0 3 T.f_l_script_factor_text T.fd_l_script_factor_text ["factor"] (spFacT K) := by
  refine T.F_l_script_factor_text.ok sc_l_script_factor_text (fun vs H Q E h => ?_) (fun cdv A outer s H vs Q E hr h => ?_)
  · obtain ⟨a, f, rfl, _⟩ := h
    rfl
  · obtain ⟨a, f, rfl, hT, ok, q⟩ := h
    refine ⟨_, (pss_cons (ps_asg (pv 0) (pg_tup (by rfl) (pgs_cons (pg_name (i := 1) sc_l_script_factor_text.nd rfl (Or.inl rfl)) (pgs_cons (pg_name (i := 2) sc_l_script_factor_text.nd rfl (Or.inl rfl)) pgs_nil))))
  (pss_one (ps_ret (pe_ifExp (pt_cmpR op_eq (pv 2) pe_int (nomark _)) (pe_callTy call_str_int (by rfl) T.n_str (by decide +kernel) (pa_cons (pe_callTy call_int1 (by rfl) T.n_int (by decide +kernel) (pa_cons (pv 1) pa_nil)) pa_nil)) (pe_op op_add_str (pe_op op_add_str (pe_callTy call_str_int (by rfl) T.n_str (by decide +kernel) (pa_cons (pe_callTy call_int1 (by rfl) T.n_int (by decide +kernel) (pa_cons (pv 1) pa_nil)) pa_nil)) pe_str) (pe_callTy call_str_int (by rfl) T.n_str (by decide +kernel) (pa_cons (pe_callTy call_int1 (by rfl) T.n_int (by decide +kernel) (pa_cons (pv 2) pa_nil)) pa_nil))))))), ?_⟩
    have h1 := ok.sml.1
    have h2 := ok.sml.2
    have h3 := ok.low
    have szl : ∀ {n : Nat}, n ≤ 1000 → n ≤ sizeLine := fun h => Nat.le_trans h (by decide)
    have l1 := istr_sml h1
    have l2 : (istr f.2).length ≤ 14 := istr_sml (by omega)
    have g1 : f.1.natAbs.log2 < 1920 := small_log (by omega) (by omega)
    have g2 : f.2.natAbs.log2 < 1920 := small_log (by omega) (by omega)
    refine ⟨_, rfl, a, _, rfl, hT, rfl, _, _, rfl, _, _, rfl, rfl, ?_⟩
    refine ⟨_, rfl, rfl, _, rfl, ?_⟩
    unfold facT at q
    by_cases e : f.2 = 1
    · rw [decide_eq_true (congrArg V.int e)]
      rw [if_pos e] at q
      refine iteT ?_
      exact ⟨_, rfl, .inl ⟨_, rfl, _, rfl, g1, q⟩⟩
    · rw [decide_eq_false fun z => e (V.int.inj z)]
      rw [if_neg e] at q
      refine iteF ?_
      have l3 : (istr f.1 ++ "/" : Str).length ≤ 15 := by
        rw [app_len]
        exact Nat.add_le_add_right l1 1
      exact ⟨_, rfl, .inl ⟨_, rfl, _, rfl, g1, _, _, rfl, rfl, szl (Nat.le_trans (Nat.add_le_add_right l1 1) (by decide)), _, rfl, .inl ⟨_, rfl, _, rfl, g2, _, _, rfl, rfl, szl (Nat.le_trans (Nat.add_le_add l3 l2) (by decide)), q⟩⟩⟩
theorem Td.facI {K : PySem.W.Frag} {H : Hp} {v : V} {f : Fac} {z : Str} (h : Td K H v (.tuple [facD f, .str z])) : ∃ a b, v = .ref a ∧ SqT K H a [.ref b, .str z] ∧ SqT K H b [.int f.1, .int f.2] := by
  obtain ⟨a, xs, rfl, h1, hA⟩ := h.tupI
  obtain ⟨x, r, rfl, e1, hA⟩ := hA.consI
  obtain ⟨y, r, rfl, e2, hA⟩ := hA.consI
  cases hA.nilI
  cases e2.strI
  obtain ⟨b, ys, rfl, h2, hA⟩ := e1.tupI
  obtain ⟨x, r, rfl, e1, hA⟩ := hA.consI
  obtain ⟨y, r, rfl, e2, hA⟩ := hA.consI
  cases hA.nilI
  cases e1.intI
  cases e2.intI
  exact ⟨a, b, rfl, h1, h2⟩
theorem FrmFit.flat {f : Frm} (h : FrmFit f) (n : ∀ fs, f ≠ .add fs) : ∀ d ∈ f.partsL, (∃ z, d = .str z) ∨ ∃ i : Int, d = .int i ∧ 1 ≤ i ∧ i ≤ 4 := by
  intro d hd
  cases f with
  | one gs =>
    obtain ⟨g, hg, rfl⟩ := List.mem_map.mp hd
    exact .inr ⟨g, rfl, GsOk.rng h g hg⟩
  | road k g h' =>
    obtain ⟨h1, h2, h3⟩ := h
    have hd : d ∈ [PyData.str k, .int g, .int h'] := hd
    simp only [List.mem_cons, List.mem_nil_iff, or_false] at hd
    rcases hd with rfl | rfl | rfl
    · exact .inl ⟨_, rfl⟩
    · exact .inr ⟨_, rfl, h2⟩
    · exact .inr ⟨_, rfl, h3⟩
  | prod a b =>
    have hd : d ∈ [PyData.str a, .str b] := hd
    simp only [List.mem_cons, List.mem_nil_iff, or_false] at hd
    rcases hd with rfl | rfl <;> exact .inl ⟨_, rfl⟩
  | close g a =>
    have hd : d ∈ [PyData.int g, .str a] := hd
    simp only [List.mem_cons, List.mem_nil_iff, or_false] at hd
    rcases hd with rfl | rfl
    · exact .inr ⟨_, rfl, h.1⟩
    · exact .inl ⟨_, rfl⟩
  | turn g h' a =>
    obtain ⟨h1, h2, h3⟩ := h
    have hd : d ∈ [PyData.int g, .int h', .str a] := hd
    simp only [List.mem_cons, List.mem_nil_iff, or_false] at hd
    rcases hd with rfl | rfl | rfl
    · exact .inr ⟨_, rfl, h1⟩
    · exact .inr ⟨_, rfl, h2⟩
    · exact .inl ⟨_, rfl⟩
  | add fs => exact absurd rfl (n fs)
def spLineT (K : PySem.W.Frag) : Sp := fun vs H Q _ => ∃ (a : Addr) (l : Ln), vs = [.ref a] ∧ Td K H (.ref a) l.data ∧ LnFit l ∧ ∀ H', Same H H' → Q (.str (lineT l)) H'
theorem ok_l_script_line_text (T : Txt K mg) : FnOk P w K mg base CX0 4 T.f_l_script_line_text T.fd_l_script_line_text ["line"] (spLineT K) := by
  refine T.F_l_script_line_text.ok sc_l_script_line_text (fun vs H Q E h => ?_) (fun cdv A outer s H vs Q E hr h => ?_)
  · obtain ⟨a, l, rfl, _⟩ := h
    rfl
  · obtain ⟨a, l, rfl, hd, fit, q⟩ := h
    refine ⟨_, (pss_cons (ps_asg (pv 0) (pg_tup (by rfl) (pgs_cons (pg_name (i := 1) sc_l_script_line_text.nd rfl (Or.inl rfl)) (pgs_cons (pg_name (i := 2) sc_l_script_line_text.nd rfl (Or.inl rfl)) (pgs_cons (pg_name (i := 3) sc_l_script_line_text.nd rfl (Or.inl rfl)) pgs_nil)))))
  (pss_cons (ps_if (pt_cmpR op_eq (pv 2) pe_str (nomark _)) (pss_one (ps_ret (pe_join pe_str (pe_lst (pa_cons (pv 1) (pa_cons pe_str (pa_cons (pe_ix ix_tup (pv 3) pe_int (fun _ _ => rfl)) (pa_cons pe_str (pa_cons (pe_ix ix_tup (pv 3) pe_int (fun _ _ => rfl)) pa_nil))))))))) pss_nil)
  (pss_cons (ps_set (i := 4) sc_l_script_line_text.nd rfl (Or.inl rfl) (pe_lst (pa_cons (pv 1) (pa_cons pe_str (pa_cons (pv 2) pa_nil)))))
  (pss_cons (ps_for PassesOwn.never rfl (pi_tup (pv 3)) (pg_name (i := 5) sc_l_script_line_text.nd rfl (Or.inl rfl)) (pss_one (ps_if (pt_cmpR op_eq (pv 2) pe_str (nomark _)) (pss_one (ps_expr (pe_bm PySem.F.plainAttrs_list PySem.F.slot_list_extend PySem.F.type_list_extend mt_extend (pv 4) (pa_cons (pe_lst (pa_cons (pe_call (ok_l_script_factor_text T) (hr.mono (by decide)) (by rfl) T.g_l_script_factor_text T.F_l_script_factor_text.kp T.b_l_script_factor_text .nil pass0 (pa_cons (pe_ix ix_tup (pv 5) pe_int (fun _ _ => rfl)) pa_nil)) (pa_cons (pe_ix ix_tup (pv 5) pe_int (fun _ _ => rfl)) pa_nil))) pa_nil)))) (pss_one (ps_expr (pe_bm PySem.F.plainAttrs_list PySem.F.slot_list_append PySem.F.type_list_append mt_append (pv 4) (pa_cons (pe_ifExp (pt_val (pe_callB call_isi (by rfl) T.n_isinstance (by decide +kernel) (pa_cons (pv 5) (pa_cons (pe_bltn (v := .ty "str") (by rfl) T.n_str (by decide +kernel) rfl) pa_nil)))) (pv 5) (pe_callTy call_str_int (by rfl) T.n_str (by decide +kernel) (pa_cons (pe_callTy call_int1 (by rfl) T.n_int (by decide +kernel) (pa_cons (pv 5) pa_nil)) pa_nil))) pa_nil)))))))
  (pss_one (ps_ret (pe_join pe_str (pv 4)))))))), ?_⟩
    have wide : ∀ {n : Nat}, n ≤ 1000 → n ≤ sizeLine := fun h => Nat.le_trans h (by decide)
    obtain ⟨_, p, e, ha, hp⟩ := hd.ln
    cases e
    obtain ⟨_, xs, e, hP, hA⟩ := hp.tupI
    cases e
    have hw := fit.words
    obtain ⟨nm, fm⟩ := l
    refine ⟨_, rfl, a, _, rfl, ha, rfl, _, _, rfl, _, _, rfl, _, _, rfl, rfl, ?_⟩
    by_cases isP : ∃ x y, fm = .prod x y
    · obtain ⟨x, y, rfl⟩ := isP
      have ex : xs = [.str x, .str y] := by
        obtain ⟨_, r, rfl, h1, hA⟩ := hA.consI
        obtain ⟨_, r, rfl, h2, hA⟩ := hA.consI
        rw [h1.strI, h2.strI, hA.nilI]
      subst ex
      refine ⟨_, rfl, rfl, _, rfl, ?_⟩
      refine (show (if decide (V.str _ = V.str _) = true then _ else _) from ifS_eq ?_)
      refine ⟨⟨_, rfl⟩, _, rfl, _, rfl, p, _, 0, .str x, rfl, rfl, hP, rfl, _, rfl, p, _, 1, .str y, rfl, rfl, hP, rfl, wide (show 5 ≤ 1000 by decide), fun L hL => ?_⟩
      exact ⟨_, L, [nm, "=", x, "*", y], rfl, rfl, .inl (SqL.of upd_same), join_ok (c := 30) (n := 203) hw.2 hw.1 rfl (by decide), q _ (same_new hL)⟩
    · have ne : fm.word ≠ "*" := by
        cases fm with
        | prod x y => exact absurd ⟨x, y, rfl⟩ isP
        | _ => dsimp only [Frm.word]; decide
      have eT : lineT ⟨nm, fm⟩ = Txt.join " " ([nm, "=", fm.word] ++ (fm.partsL.map dW).flatten) := by
        cases fm with
        | prod x y => exact absurd ⟨x, y, rfl⟩ isP
        | _ => rfl
      refine ⟨_, rfl, rfl, _, rfl, ?_⟩
      refine (show (if decide (V.str _ = V.str _) = true then _ else _) from ifS_ne (decide_eq_false ne) ?_)
      refine ⟨_, rfl, _, rfl, wide (show 3 ≤ 1000 by decide), fun W hW => ?_⟩
      have s0 := same_new (o := .lst (([nm, "=", fm.word] : List Str).map V.str)) hW
      refine ⟨_, rfl, p, rfl, ⟨_, SqT.tk hP (Same.tk (same_new hW))⟩, ?_⟩
      have part := fit.fm.parts
      have lw : ∀ i, ((([nm, "=", fm.word] ++ ((fm.partsL.take i).map dW).flatten : List Str)).map V.str).length ≤ 203 := fun i => by
        rw [List.length_map, List.length_append]
        have := (flat2 (ds := fm.partsL.take i) (n := 100) (by rw [List.length_take]; exact Nat.le_trans (Nat.min_le_right _ _) part.1) fun d hd => part.2 d (List.mem_of_mem_take hd)).1
        show 3 + _ ≤ 203
        omega
      refine for_tup (K := K) (a := p) (xs := xs) (fun i σ H' => ∃ u5 : Option V, σ = [some (.ref a), some (.str nm), some (.str fm.word), some (.ref p), some (.ref W), u5] ∧ Same H H' ∧ H' W = some (.lst (([nm, "=", fm.word] ++ ((fm.partsL.take i).map dW).flatten : List Str).map V.str)))
        ⟨_, rfl, same_new hW, upd_same⟩ (fun i σ H' _ ⟨_, _, s, _⟩ => SqT.tk hP (Same.tk s)) ?_ ?_
      · rintro i x σ H' hx ⟨u5, rfl, s, gW⟩
        obtain ⟨d, hd, hxd⟩ := hA.atV hx
        have tm := take_more hd
        have lw1 := lw i
        have grow : ∀ {H2 : Hp}, Same H' H2 → ∀ {ys : List V}, ys = (dW d).map V.str → ∀ {o}, o = HO.lst ((([nm, "=", fm.word] ++ ((fm.partsL.take i).map dW).flatten : List Str).map V.str) ++ ys) → Same H (upd H2 W o) ∧ (upd H2 W o) W = some (.lst (([nm, "=", fm.word] ++ ((fm.partsL.take (i + 1)).map dW).flatten : List Str).map V.str)) := by
          intro H2 s2 ys ey o eo
          refine ⟨fun b u hu => ?_, ?_⟩
          · rw [upd_ne (ne_of_none hu hW)]
            exact s2 _ _ (s _ _ hu)
          · rw [upd_same, eo, ey, tm, List.map_append (f := dW), List.flatten_append, ← List.append_assoc, List.map_append (f := V.str) (l₁ := _ ++ _)]
            simp
        by_cases isA : ∃ fs, fm = .add fs
        · obtain ⟨fs, rfl⟩ := isA
          have hdf : d ∈ fs.map fun f => PyData.tuple [facD f.1, .str f.2] := List.mem_of_getElem? hd
          obtain ⟨f, hf, rfl⟩ := List.mem_map.mp hdf
          obtain ⟨fa, fb, rfl, h1, h2⟩ := hxd.facI
          have fo := (fit.fm.2 f hf).1
          refine ⟨_, rfl, rfl, _, rfl, ?_⟩
          refine (show (if decide (V.str _ = V.str _) = true then _ else _) from ifS_eq ?_)
          refine ⟨_, rfl, .inl ⟨rfl, _, SqL.of gW⟩, ?_⟩
          have k1 := SqT.tk h1 (Same.tk s)
          have k2 := SqT.tk h2 (Same.tk s)
          refine ⟨_, rfl, fa, _, 0, .ref fb, rfl, rfl, k1, rfl, fb, f.1, rfl, k2, fo, _, rfl, fa, _, 1, .str f.2, rfl, rfl, k1, rfl, wide (show 2 ≤ 1000 by decide), fun M hM => ?_⟩
          have sM := same_new (o := .lst (([facT f.1, f.2] : List Str).map V.str)) hM
          have g2 := grow sM (ys := ([facT f.1, f.2] : List Str).map V.str) rfl rfl
          refine ⟨W, M, _, _, rfl, rfl, sM _ _ gW, upd_same, ?_, _, rfl, g2⟩
          exact Nat.le_trans (Nat.add_le_add_right lw1 2) (by decide)
        · have neA : fm.word ≠ "add" := by
            cases fm with
            | add fs => exact absurd ⟨fs, rfl⟩ isA
            | _ => dsimp only [Frm.word]; decide
          refine ⟨_, rfl, rfl, _, rfl, ?_⟩
          refine (show (if decide (V.str _ = V.str _) = true then _ else _) from ifS_ne (decide_eq_false neA) ?_)
          refine ⟨_, rfl, .inl ⟨rfl, _, SqL.of gW⟩, ?_⟩
          have flat := fit.fm.flat (fun fs e => isA ⟨fs, e⟩) d (List.mem_of_getElem? hd)
          rcases flat with ⟨z, rfl⟩ | ⟨g, rfl, g1, g4⟩
          · cases hxd.strI
            refine ⟨_, rfl, _, _, _, _, true, rfl, .ty _, .base (.str _), kit_ty (by decide +kernel), ?_⟩
            refine ⟨_, rfl, ?_⟩
            refine iteT ?_
            have g2 := grow (Same.refl H') (ys := [.str z]) rfl rfl
            refine ⟨_, rfl, W, _, _, rfl, rfl, gW, ?_, _, rfl, g2⟩
            exact Nat.lt_of_le_of_lt lw1 (by decide)
          · cases hxd.intI
            refine ⟨_, rfl, _, _, _, _, false, rfl, .ty _, .base (.int _), kit_ty (by decide +kernel), ?_⟩
            refine ⟨_, rfl, ?_⟩
            refine iteF ?_
            have g2 := grow (Same.refl H') (ys := [.str (istr g)]) rfl rfl
            refine ⟨_, rfl, .inl ⟨_, rfl, _, rfl, small_log (by omega) (by omega), W, _, _, rfl, rfl, gW, ?_, _, rfl, g2⟩⟩
            exact Nat.lt_of_le_of_lt lw1 (by decide)
      · rintro σ H' ⟨u5, rfl, s, gW⟩
        rw [hA.len, List.take_length] at gW
        rw [eT] at q
        have hw2 : ([nm, "=", fm.word] ++ (fm.partsL.map dW).flatten).length ≤ 203 ∧ ∀ z ∈ [nm, "=", fm.word] ++ (fm.partsL.map dW).flatten, z.length ≤ 30 := by
          cases fm with
          | prod x y => exact absurd ⟨x, y, rfl⟩ isP
          | _ => exact hw
        exact ⟨⟨_, rfl⟩, _, rfl, _, W, _, rfl, rfl, .inl (SqL.of gW), join_ok (c := 30) (n := 203) hw2.2 hw2.1 rfl (by decide), q _ s⟩
end
end OG
set_option Elab.async false
set_option linter.all false
set_option maxRecDepth 100000
set_option maxHeartbeats 8000000
namespace OG
open PySem PySem.Spec PyProof.Rows L2
theorem lineT_len {l : Ln} (h : LnFit l) : (lineT l).length ≤ 6293 := join_le (c := 30) (n := 203) h.words.2 h.words.1 rfl
theorem textT_ok {lns : List Ln} (h : ∀ l ∈ lns, LnFit l) (hn : lns.length ≤ 1000) : ((("script" : Str) :: lns.map lineT).map (·.length)).sum + (("script" : Str) :: lns.map lineT).length * ("\n" : Str).length ≤ 16777216 := by
  refine join_ok (c := 6293) (n := 1001) (fun y hy => ?_) ?_ rfl (by decide)
  · rcases List.mem_cons.mp hy with rfl | hy
    · decide
    · obtain ⟨l, hl, rfl⟩ := List.mem_map.mp hy
      exact lineT_len (h l hl)
  · rw [List.length_cons, List.length_map]
    omega
section
variable {P : Program} {w : World} {K : PySem.W.Frag} {mg : Str → Option Value} {base : Heap}
def spTextT (K : PySem.W.Frag) : Sp := fun vs H Q _ => ∃ (lp : Addr) (xs : List V) (lns : List Ln), vs = [.ref lp] ∧ SqL K H lp xs ∧ TdAll K H xs (lns.map Ln.data) ∧ (∀ l ∈ lns, LnFit l) ∧ lns.length ≤ 1000 ∧
  ∀ (H' : Hp), Same H H' → Q (.str (textT lns)) H'
theorem ok_l_script_text (T : Txt K mg) : FnOk P w K mg base CX0 5 T.f_l_script_text T.fd_l_script_text ["lines"] (spTextT K) := by
  refine T.F_l_script_text.ok sc_l_script_text (fun vs H Q E h => ?_) (fun cdv A outer s H vs Q E hr h => ?_)
  · obtain ⟨lp, xs, lns, rfl, _⟩ := h
    rfl
  · obtain ⟨lp, xs, lns, rfl, hL, hA, fit, hn, q⟩ := h
    refine ⟨_, (pss_one (ps_ret (pe_join pe_str (pe_op op_cat (pe_lst (pa_cons pe_str pa_nil)) (pe_lc (own := [("line", 1)]) (g := gName 1) (by rfl) sc_l_script_text.nd (pi_list (pv 0)) (blkOk_by (own := [("line", 1)]) (by rfl)) (fun _ _ _ _ _ => (pg_name (i := 1) sc_l_script_text.nd rfl (Or.inl rfl))) (fun _ _ _ _ _ => pts_nil) (fun _ _ _ _ _ => (pe_call (ok_l_script_line_text T) (hr.mono (by decide)) (by rfl) T.g_l_script_line_text T.F_l_script_line_text.kp T.b_l_script_line_text .nil pass0 (pa_cons (pv 1) pa_nil)))))))), ?_⟩
    have wide : ∀ {n : Nat}, n ≤ 2000 → n ≤ sizeLine := fun h => Nat.le_trans h (by decide)
    have len := hA.lnLen
    refine ⟨⟨_, rfl⟩, wide (show 1 ≤ 2000 by decide), fun L hLn => ?_⟩
    have s1 := same_new (o := .lst (([("script" : Str)] : List Str).map V.str)) hLn
    refine ⟨.ref lp, rfl, lp, rfl, ⟨_, SqL.ext hL (same_new hLn)⟩, fun D hD => ?_⟩
    have e1 : upd H L (.lst [.str "script"]) = upd H L (.lst (([("script" : Str)] : List Str).map V.str)) := rfl
    have gL : (upd H L (.lst (([("script" : Str)] : List Str).map V.str))) L = some (.lst (([("script" : Str)] : List Str).map V.str)) := upd_same
    rw [e1] at hD ⊢
    generalize upd H L (.lst (([("script" : Str)] : List Str).map V.str)) = H1 at *
    refine lc_mapL' (K := K) (a := lp) (xs := xs) (lns.map lineT) (by rw [List.length_map]; exact len.symm) (by omega) hD (SqL.ext hL s1) (fun _ => rfl) (fun x H' Q k => k) (fun i x y H' Q hx hy s k => ?_) (fun H' s g => ?_)
    · obtain ⟨l, hl, hd⟩ := hA.lnAt hx
      rw [List.getElem?_map, hl] at hy
      cases Option.some.inj hy
      obtain ⟨a, p, rfl, ha, hp⟩ := hd.ln
      exact ⟨_, rfl, a, l, rfl, hd.mv (Same.tk (s1.trans s)), fit l (List.mem_of_getElem? hl), fun H2 s2 => k _ s2⟩
    · refine ⟨L, D, _, _, rfl, rfl, s _ _ gL, g, wide ?_, fun J hJ => ?_⟩
      · rw [List.length_map, List.length_map, List.length_map]
        show 1 + lns.length ≤ 2000
        omega
      refine ⟨_, J, "script" :: lns.map lineT, rfl, rfl, .inl (SqL.of ?_), textT_ok fit hn, q _ ((s1.trans s).trans (same_new hJ))⟩
      rw [upd_same]
      rfl
end
end OG
set_option Elab.async false
set_option linter.all false
set_option maxRecDepth 100000
set_option maxHeartbeats 8000000
namespace OG
open PySem PySem.Spec PyProof.Rows L2
def szF (kvs : List (Key × V)) (a : Str) : Int := match valV kvs (.inr a) with
  | some (.int n) => n
  | _ => 0
/-- sizes of all that is known -/
def SzOk (kn : Kn) (kvs : List (Key × V)) : Prop := ∀ a gs, glk kn a = some gs → valV kvs (.inr a) = some (.int (szF kvs a))
theorem SzOk.nil (kvs : List (Key × V)) : SzOk [] kvs := fun a gs h => by cases h
theorem SzOk.snoc {kn : Kn} {kvs : List (Key × V)} (h : SzOk kn kvs) {a : Str} {gs : List Int} {n : Int} : SzOk (kn ++ [(a, gs)]) (putK kvs (.inr a) (.int n)) := by
  intro b bs e
  unfold szF
  rw [valV_put]
  by_cases n : b = a
  · rw [if_pos (by rw [n])]
  · rw [if_neg fun z => n (Sum.inr.inj z)]
    rw [glk_app] at e
    cases q : glk kn b with
    | none =>
      rw [q] at e
      have e : (if b = a then some gs else none) = some bs := e
      rw [if_neg n] at e
      cases e
    | some g =>
      have := h b g q
      rw [this]
section
variable {P : Program} {w : World} {K : PySem.W.Frag} {mg : Str → Option Value} {base : Heap}
def spSize (K : PySem.W.Frag) : Sp := fun vs H Q _ => ∃ (sd pt : Addr) (kn : Kn) (kvs : List (Key × V)) (f : Frm), vs = [.ref sd, .str f.word, .ref pt] ∧ H sd = some (.dK kvs) ∧ SzOk kn kvs ∧ FrmOk kn f ∧
  Td K H (.ref pt) (.tuple f.partsL) ∧ ∀ (n : Int) (H' : Hp), Same H H' → Q (.int n) H'
theorem ok_l_script_size (T : Txt K mg) : FnOk P w K mg base CX0 3 T.f_l_script_size T.fd_l_script_size ["sizes", "form", "parts"] (spSize K) := by
  refine T.F_l_script_size.ok sc_l_script_size (fun vs H Q E h => ?_) (fun cdv A outer s H vs Q E hr h => ?_)
  · obtain ⟨sd, pt, kn, kvs, f, rfl, _⟩ := h
    rfl
  · obtain ⟨sd, pt, kn, kvs, f, rfl, gS, hS, hf, hp, q⟩ := h
    refine ⟨_, (pss_cons (ps_if (pt_cmpR op_in_seq (pv 1) (pe_tup (pa_cons pe_str (pa_cons pe_str pa_nil))) rfl) (pss_one (ps_ret (pe_op op_add pe_int (pe_callB call_len_seq (by rfl) T.n_len PySem.boot_len (pa_cons (pv 2) pa_nil))))) pss_nil)
  (pss_cons (ps_if (pt_cmpR op_eq (pv 1) pe_str (nomark _)) (pss_one (ps_ret (pe_op op_add (pe_dget (hu_of hr) (pv 0) (pe_ix ix_tup (pv 2) pe_int (fun _ _ => rfl)) (fun _ _ => rfl)) (pe_dget (hu_of hr) (pv 0) (pe_ix ix_tup (pv 2) pe_int (fun _ _ => rfl)) (fun _ _ => rfl))))) pss_nil)
  (pss_cons (ps_if (pt_cmpR op_eq (pv 1) pe_str (nomark _)) (pss_one (ps_ret (pe_op op_add pe_int (pe_callB (cr_max rfl) (by rfl) T.n_max (by decide +kernel) (pa_cons (pe_lc (own := [("factor", 3), ("one", 4)]) (by rfl) sc_l_script_size.nd (pi_tup (pv 2)) (blkOk_by (own := [("factor", 3), ("one", 4)]) (by rfl)) (fun _ _ _ _ _ => (pg_tupK K (n := 2) (by rfl) (pgs_cons (pg_name (i := 3) sc_l_script_size.nd rfl (Or.inl rfl)) (pgs_cons (pg_name (i := 4) sc_l_script_size.nd rfl (Or.inl rfl)) pgs_nil)))) (fun _ _ _ _ _ => pts_nil) (fun _ _ _ _ _ => (pe_dget (hu_of hr) (pv 0) (pv 4) (fun _ _ => rfl)))) pa_nil))))) pss_nil)
  (pss_one (ps_ret (pe_dget (hu_of hr) (pv 0) (pe_ix ix_tup (pv 2) (pe_un un_neg pe_int) (fun _ _ => rfl)) (fun _ _ => rfl))))))), ?_⟩
    have wide : ∀ {n : Nat}, n ≤ 1000 → n ≤ sizeLine := fun h => Nat.le_trans h (by decide)
    obtain ⟨pa, xs, ea, hT, hA⟩ := hp.tupI
    cases ea
    cases f with
    | one gs =>
      refine ⟨_, rfl, (by show 2 ≤ 16777216; decide), fun t0 ht0 => ⟨t0, _, rfl, .inr (SqT.of upd_same), rfl, rfl, ?_⟩⟩
      refine ⟨_, rfl, ?_⟩
      refine (show (if inV (V.str _) ((["one", "road"] : List Str).map V.str) = true then _ else _) from ?_)
      rw [inV_str, decide_eq_true (by dsimp only [Frm.word]; decide)]
      refine iteT ?_
      exact ⟨_, rfl, pt, _, rfl, .inr (SqT.tk hT (Same.tk (same_new ht0))), _, _, rfl, rfl, q _ _ (same_new ht0)⟩
    | road k g h =>
      refine ⟨_, rfl, (by show 2 ≤ 16777216; decide), fun t0 ht0 => ⟨t0, _, rfl, .inr (SqT.of upd_same), rfl, rfl, ?_⟩⟩
      refine ⟨_, rfl, ?_⟩
      refine (show (if inV (V.str _) ((["one", "road"] : List Str).map V.str) = true then _ else _) from ?_)
      rw [inV_str, decide_eq_true (by dsimp only [Frm.word]; decide)]
      refine iteT ?_
      exact ⟨_, rfl, pt, _, rfl, .inr (SqT.tk hT (Same.tk (same_new ht0))), _, _, rfl, rfl, q _ _ (same_new ht0)⟩
    | prod a b =>
      have ex : xs = [.str a, .str b] := by
        obtain ⟨x, r, rfl, h1, hA⟩ := hA.consI
        obtain ⟨y, r, rfl, h2, hA⟩ := hA.consI
        rw [h1.strI, h2.strI, hA.nilI]
      subst ex
      obtain ⟨⟨ga, ea⟩, gb, eb⟩ := hf
      refine ⟨_, rfl, (by show 2 ≤ 16777216; decide), fun t0 ht0 => ⟨t0, _, rfl, .inr (SqT.of upd_same), rfl, rfl, ?_⟩⟩
      refine ⟨_, rfl, ?_⟩
      refine (show (if inV (V.str _) ((["one", "road"] : List Str).map V.str) = true then _ else _) from ?_)
      rw [inV_str, decide_eq_false (by dsimp only [Frm.word]; decide)]
      refine iteF ?_
      refine ⟨_, rfl, rfl, _, rfl, ?_⟩
      refine (show (if decide (V.str _ = V.str _) = true then _ else _) from ifS_eq ?_)
      have s0 := same_new (o := .tup [.str "one", .str "road"]) ht0
      have hT := SqT.tk hT (Same.tk s0)
      exact ⟨_, rfl, _, rfl, pt, _, 0, .str a, rfl, rfl, hT, rfl, sd, _, rfl, .inl ⟨kvs, .inr a, .inl (s0 _ _ gS), rfl, (hS a _ ea).symm⟩, _, rfl, _, rfl, pt, _, 1, .str b, rfl, rfl, hT, rfl, sd, _, rfl, .inl ⟨kvs, .inr b, .inl (s0 _ _ gS), rfl, (hS b _ eb).symm⟩, _, _, rfl, rfl, q _ _ s0⟩
    | close g a =>
      have ex : xs = [.int g, .str a] := by
        obtain ⟨x, r, rfl, h1, hA⟩ := hA.consI
        obtain ⟨y, r, rfl, h2, hA⟩ := hA.consI
        rw [h1.intI, h2.strI, hA.nilI]
      subst ex
      obtain ⟨ga, ea, _⟩ := hf
      refine ⟨_, rfl, (by show 2 ≤ 16777216; decide), fun t0 ht0 => ⟨t0, _, rfl, .inr (SqT.of upd_same), rfl, rfl, ?_⟩⟩
      refine ⟨_, rfl, ?_⟩
      refine (show (if inV (V.str _) ((["one", "road"] : List Str).map V.str) = true then _ else _) from ?_)
      rw [inV_str, decide_eq_false (by dsimp only [Frm.word]; decide)]
      refine iteF ?_
      refine ⟨_, rfl, rfl, _, rfl, ?_⟩
      refine (show (if decide (V.str _ = V.str _) = true then _ else _) from ifS_ne (by refine decide_eq_false ?_; dsimp only [Frm.word]; decide) ?_)
      refine ⟨_, rfl, rfl, _, rfl, ?_⟩
      refine (show (if decide (V.str _ = V.str _) = true then _ else _) from ifS_ne (by refine decide_eq_false ?_; dsimp only [Frm.word]; decide) ?_)
      have s0 := same_new (o := .tup [.str "one", .str "road"]) ht0
      have hT := SqT.tk hT (Same.tk s0)
      exact ⟨_, rfl, _, rfl, _, rfl, pt, _, -1, .str a, rfl, rfl, hT, rfl, sd, _, rfl, .inl ⟨kvs, .inr a, .inl (s0 _ _ gS), rfl, (hS a _ ea).symm⟩, q _ _ s0⟩
    | turn g h a =>
      have ex : xs = [.int g, .int h, .str a] := by
        obtain ⟨x, r, rfl, h1, hA⟩ := hA.consI
        obtain ⟨y, r, rfl, h2, hA⟩ := hA.consI
        obtain ⟨z, r, rfl, h3, hA⟩ := hA.consI
        rw [h1.intI, h2.intI, h3.strI, hA.nilI]
      subst ex
      obtain ⟨hgh, hg, hh, ga, ea, _⟩ := hf
      refine ⟨_, rfl, (by show 2 ≤ 16777216; decide), fun t0 ht0 => ⟨t0, _, rfl, .inr (SqT.of upd_same), rfl, rfl, ?_⟩⟩
      refine ⟨_, rfl, ?_⟩
      refine (show (if inV (V.str _) ((["one", "road"] : List Str).map V.str) = true then _ else _) from ?_)
      rw [inV_str, decide_eq_false (by dsimp only [Frm.word]; decide)]
      refine iteF ?_
      refine ⟨_, rfl, rfl, _, rfl, ?_⟩
      refine (show (if decide (V.str _ = V.str _) = true then _ else _) from ifS_ne (by refine decide_eq_false ?_; dsimp only [Frm.word]; decide) ?_)
      refine ⟨_, rfl, rfl, _, rfl, ?_⟩
      refine (show (if decide (V.str _ = V.str _) = true then _ else _) from ifS_ne (by refine decide_eq_false ?_; dsimp only [Frm.word]; decide) ?_)
      have s0 := same_new (o := .tup [.str "one", .str "road"]) ht0
      have hT := SqT.tk hT (Same.tk s0)
      exact ⟨_, rfl, _, rfl, _, rfl, pt, _, -1, .str a, rfl, rfl, hT, rfl, sd, _, rfl, .inl ⟨kvs, .inr a, .inl (s0 _ _ gS), rfl, (hS a _ ea).symm⟩, q _ _ s0⟩
    | add fs =>
      obtain ⟨hn, h100, _, gs, hfs⟩ := hf
      refine ⟨_, rfl, (by show 2 ≤ 16777216; decide), fun t0 ht0 => ⟨t0, _, rfl, .inr (SqT.of upd_same), rfl, rfl, ?_⟩⟩
      refine ⟨_, rfl, ?_⟩
      refine (show (if inV (V.str _) ((["one", "road"] : List Str).map V.str) = true then _ else _) from ?_)
      rw [inV_str, decide_eq_false (by dsimp only [Frm.word]; decide)]
      refine iteF ?_
      refine ⟨_, rfl, rfl, _, rfl, ?_⟩
      refine (show (if decide (V.str _ = V.str _) = true then _ else _) from ifS_ne (by refine decide_eq_false ?_; dsimp only [Frm.word]; decide) ?_)
      refine ⟨_, rfl, rfl, _, rfl, ?_⟩
      refine (show (if decide (V.str _ = V.str _) = true then _ else _) from ifS_eq ?_)
      have s0 := same_new (o := .tup [.str "one", .str "road"]) ht0
      have hT := SqT.tk hT (Same.tk s0)
      have gS := s0 _ _ gS
      have hA := hA.mv (Same.tk s0)
      generalize upd H t0 (.tup [.str "one", .str "road"]) = H1 at *
      have hl : xs.length = fs.length := by
        rw [hA.len]
        show (fs.map fun f => PyData.tuple [facD f.1, .str f.2]).length = _
        rw [List.length_map]
      refine ⟨_, rfl, pt, rfl, ⟨_, hT⟩, fun D hD => ?_⟩
      refine lc_tup (K := K) (a := pt) (xs := xs) (fun i H' => Same H1 H' ∧ H' D = some (.lst (((fs.map fun f => szF kvs f.2).take i).map V.int))) ⟨same_new hD, upd_same⟩ (fun i H' _ ⟨s, _⟩ => SqT.tk hT (Same.tk s)) ?_ ?_
      · rintro i x H' hx ⟨s, g⟩
        obtain ⟨d, hd, hxd⟩ := hA.atV hx
        have hd : (fs.map fun f => PyData.tuple [facD f.1, .str f.2])[i]? = some d := hd
        rw [List.getElem?_map] at hd
        cases hf : fs[i]? with
        | none =>
          rw [hf] at hd
          cases hd
        | some f =>
          rw [hf] at hd
          cases Option.some.inj hd
          obtain ⟨fa, fb, rfl, h1, h2⟩ := hxd.facI
          refine ⟨fa, _, rfl, SqT.tk h1 (Same.tk s), rfl, _, _, rfl, _, _, rfl, rfl, rfl, ?_⟩
          refine ⟨_, rfl, _, rfl, sd, _, rfl, .inl ⟨kvs, .inr f.2, .inl (s _ _ gS), rfl, (hS f.2 _ (hfs f (List.mem_of_getElem? hf))).symm⟩, ?_⟩
          refine ⟨_, g, ?_, fun b u hu => ?_, ?_⟩
          · rw [List.length_map, List.length_take, List.length_map]
            exact Nat.lt_of_le_of_lt (show min i fs.length ≤ 100 by omega) (by decide)
          · rw [upd_ne (ne_of_none hu hD)]
            exact s _ _ hu
          · rw [upd_same, take_more (l := fs.map fun f => szF kvs f.2) (i := i) (x := szF kvs f.2) (by rw [List.getElem?_map, hf]; rfl), List.map_append]
            rfl
      · rintro H' ⟨s, g⟩
        rw [hl, show fs.length = (fs.map fun f => szF kvs f.2).length by rw [List.length_map], List.take_length] at g
        refine ⟨D, _, rfl, SqL.of g, ?_, fun m hm hh => ⟨_, _, rfl, rfl, q _ _ (s0.trans s)⟩⟩
        rw [List.length_map]
        exact List.length_pos_iff.mpr hn
end
end OG
set_option Elab.async false
set_option linter.all false
set_option maxRecDepth 100000
set_option maxHeartbeats 8000000
namespace OG
open PySem PySem.Spec PyProof.Rows L2
theorem op_eqDK {X : Cx} (K : PySem.W.Frag) (hu : X.A.units + 64 < cLine) (hK : X.K = K := by rfl) : OpR X (compareOp .Eq) (rEqD K) := hK ▸ op_eqD hu
theorem eqv_ints : ∀ xs ys : List Int, PyData.eqvAll (xs.map PyData.int) (ys.map PyData.int) = decide (xs = ys)
  | [], [] => by simp [PyData.eqvAll]
  | [], y :: ys => by simp [PyData.eqvAll]
  | x :: xs, [] => by simp [PyData.eqvAll]
  | x :: xs, y :: ys => by
    simp only [List.map_cons, PyData.eqvAll, PyData.eqv, eqv_ints xs ys]
    by_cases e : x = y <;> by_cases e2 : xs = ys <;> simp [e, e2]
theorem eqv_gs (xs ys : List Int) : PyData.eqv (gsD xs) (gsD ys) = decide (xs = ys) := by
  unfold gsD
  simp only [PyData.eqv]
  exact eqv_ints xs ys
theorem gsok_nil : GsOk [] := ⟨.nil, fun g h => by cases h⟩
theorem depth_ints : ∀ xs : List Int, PyData.depthAll (xs.map PyData.int) = 0
  | [] => by simp only [List.map_nil, PyData.depthAll]
  | z :: r => by
    simp only [List.map_cons, PyData.depthAll, PyData.depth, depth_ints r]
    rfl
theorem lay_intsP : ∀ xs : List Int, PyData.canLayAll0 (xs.map PyData.int) = true
  | [] => by simp [PyData.canLayAll0]
  | z :: r => by simp [PyData.canLayAll0, PyData.canLay0, lay_intsP r]
theorem shaped_gs {xs : List Int} (h : GsOk xs) : SeqAt.shaped (gsD xs) = true := by
  unfold SeqAt.shaped gsD
  rw [Bool.and_eq_true]
  refine ⟨?_, decide_eq_true ?_⟩
  · simp only [PyData.canLay0]
    exact lay_intsP xs
  · simp only [PyData.depth, depth_ints]
    decide
def kinP (kn : Kn) (gs : List Int) : V → Bool
  | .str z => decide (glk kn z = some gs)
  | _ => false
theorem filt_strs (P : V → Bool) (p : Str → Bool) (h : ∀ y, P (.str y) = p y) : ∀ xs : List Str, (xs.map V.str).filter P = (xs.filter p).map V.str
  | [] => rfl
  | x :: r => by
    rw [List.map_cons, List.filter_cons, List.filter_cons, h x, filt_strs P p h r]
    cases p x <;> rfl
theorem cut_strs (ns : List Str) (lo hi : Option Int) : ∃ zs : List Str, cutV (ns.map V.str) lo hi = zs.map V.str ∧ (∀ z ∈ zs, z ∈ ns) ∧ zs.length ≤ ns.length := by
  refine ⟨(ns.drop (HT.sIx ns.length 0 lo)).take (HT.sIx ns.length ns.length hi - HT.sIx ns.length 0 lo), ?_, fun z hz => List.mem_of_mem_drop (List.mem_of_mem_take hz), ?_⟩
  · unfold cutV
    rw [List.map_take, List.map_drop, List.length_map]
  · rw [List.length_take, List.length_drop]
    omega
theorem KnD.names {K : PySem.W.Frag} {H : Hp} {kvs : List (Key × V)} {kn : Kn} (h : KnD K H kvs kn) : (kvs.map fun kv => kV kv.1) = (kn.map (·.1)).map V.str := by
  induction h with
  | nil => rfl
  | cons _ _ ih =>
    rw [List.map_cons, List.map_cons, List.map_cons, ih]
    rfl
theorem glk_of {kn : Kn} {a : Str} (h : a ∈ kn.map (·.1)) : ∃ gs, glk kn a = some gs := by
  cases e : glk kn a with
  | none => exact absurd h (glk_none.mp e)
  | some gs => exact ⟨gs, rfl⟩
def tryForms : List Str := ["*", "add", "close", "turn"]
section
variable {P : Program} {w : World} {K : PySem.W.Frag} {mg : Str → Option Value} {base : Heap}
def spTry (K : PySem.W.Frag) : Sp := fun vs H Q _ => ∃ (p kd : Addr) (kn : Kn) (kvs : List (Key × V)) (w k : Nat) (form : Str), vs = [.ref p, .int 0, .int (w : Int), .ref kd, .str form] ∧ form ∈ tryForms ∧ H kd = some (.dK kvs) ∧ KnD K H kvs kn ∧ KnOk kn ∧
  1 ≤ kn.length ∧ kn.length ≤ 100 ∧ Pot (k + 40) H p ∧ (∀ H', Dr p k H H' → Q .non H') ∧ ∀ (a : Addr) (f : Frm) (H' : Hp), Dr p k H H' → H a = none → FrmOk kn f → Td K H' (.ref a) f.data → Q (.ref a) H'
theorem ok_l_script_try (T : Txt K mg) : FnOk P w K mg base CX0 4 T.f_l_script_try T.fd_l_script_try ["pot", "by", "width", "known", "form"] (spTry K) := by
  refine T.F_l_script_try.ok sc_l_script_try (fun vs H Q E h => ?_) (fun cdv A outer s H vs Q E hr h => ?_)
  · obtain ⟨p, kd, kn, kvs, w, k, form, rfl, _⟩ := h
    rfl
  · obtain ⟨p, kd, kn, kvs, w, k, form, rfl, hform, gk, hkn, hko, n1, n100, hP, q0, q⟩ := h
    refine ⟨_, (pss_cons (ps_set (i := 5) sc_l_script_try.nd rfl (Or.inl rfl) (pe_callTy (call_listD rfl) (by rfl) T.n_list (by decide +kernel) (pa_cons (pv 3) pa_nil)))
  (pss_cons (ps_set (i := 6) sc_l_script_try.nd rfl (Or.inl rfl) (pe_op op_cat (pe_op op_cat (pv 5) (pe_slice sl_list (pv 5) (po_some (pe_un un_neg pe_int)) po_none)) (pe_slice sl_list (pv 5) (po_some (pe_un un_neg pe_int)) po_none)))
  (pss_cons (ps_asg (pe_tup (pa_cons (pe_call (ok_l_of T) (hr.mono (by decide)) (by rfl) T.g_l_of T.F_l_of.kp T.b_l_of .nil pass0 (pa_cons (pv 0) (pa_cons (pv 6) pa_nil))) (pa_cons (pe_call (ok_l_of T) (hr.mono (by decide)) (by rfl) T.g_l_of T.F_l_of.kp T.b_l_of .nil pass0 (pa_cons (pv 0) (pa_cons (pv 6) pa_nil))) pa_nil))) (pg_tup (by rfl) (pgs_cons (pg_name (i := 7) sc_l_script_try.nd rfl (Or.inr rfl)) (pgs_cons (pg_name (i := 8) sc_l_script_try.nd rfl (Or.inr rfl)) pgs_nil))))
  (pss_cons (ps_if (pt_cmpR op_eq (pv 4) pe_str (nomark _)) (pss_cons (ps_set (i := 10) sc_l_script_try.nd rfl (Or.inl rfl) (pe_callB call_len_seq (by rfl) T.n_len PySem.boot_len (pa_cons (pe_lc (own := [("gate", 9)]) (g := gName 9) (by rfl) sc_l_script_try.nd (pi_tup (pe_tup (pa_cons pe_int (pa_cons pe_int (pa_cons pe_int (pa_cons pe_int pa_nil)))))) (blkOk_by (own := [("gate", 9)]) (by rfl)) (fun _ _ _ _ _ => (pg_name (i := 9) sc_l_script_try.nd rfl (Or.inl rfl))) (fun _ _ _ _ _ => (pts_one (pt_cmpR (op_in_seqK K) (pv 9) (pe_op (op_catAK K) (pe_dget (hu_of hr) (pv 3) (pv 7) (fun _ _ => rfl)) (pe_dget (hu_of hr) (pv 3) (pv 8) (fun _ _ => rfl))) rfl))) (fun _ _ _ _ _ => (pv 9))) pa_nil)))
  (pss_one (ps_ret (pe_ifExp (pt_cmpR op_le (pv 10) (pv 2) (nomark _)) (pe_tup (pa_cons pe_str (pa_cons (pe_tup (pa_cons (pv 7) (pa_cons (pv 8) pa_nil))) pa_nil))) pe_non)))) pss_nil)
  (pss_cons (ps_if (pt_cmpR op_eq (pv 4) pe_str (nomark _)) (pss_cons (ps_set (i := 11) sc_l_script_try.nd rfl (Or.inr rfl) (pe_lc (own := [("name", 14)]) (g := gName 14) (by rfl) sc_l_script_try.nd (pi_list (pv 6)) (blkOk_by (own := [("name", 14)]) (by rfl)) (fun _ _ _ _ _ => (pg_name (i := 14) sc_l_script_try.nd rfl (Or.inl rfl))) (fun _ _ _ _ _ => (pts_one (pt_cmpR (op_eqDK K hr.units) (pe_dget (hu_of hr) (pv 3) (pv 14) (fun _ _ => rfl)) (pe_dget (hu_of hr) (pv 3) (pv 7) (fun _ _ => rfl)) (nomark _)))) (fun _ _ _ _ _ => (pv 14))))
  (pss_cons (ps_setLc (i := 12) (own := [("lap", 15)]) (g := gName 15) (by rfl) sc_l_script_try.nd rfl rfl (sw_true rfl rfl rfl (by decide +kernel)) (pi_range1 (by rfl) T.n_range (pa_cons (pe_op op_add pe_int (pe_call (ok_l_take T) (hr.mono (by decide)) (by rfl) T.g_l_take T.F_l_take.kp T.b_l_take .nil pass0 (pa_cons (pv 0) (pa_cons pe_int pa_nil)))) pa_nil)) (blkOk_by (own := [("lap", 15)]) (by rfl)) (fun _ _ _ _ _ => (pg_name (i := 15) sc_l_script_try.nd rfl (Or.inl rfl))) (fun _ _ _ _ _ => pts_nil) (fun _ _ _ _ _ => (pe_call (ok_l_of T) (hr.mono (by decide)) (by rfl) T.g_l_of T.F_l_of.kp T.b_l_of .nil pass0 (pa_cons (pv 0) (pa_cons (pv 11) pa_nil)))))
  (pss_one (ps_ret (pe_tup (pa_cons pe_str (pa_cons (pe_callTy call_tuple_of (by rfl) T.n_tuple (by decide +kernel) (pa_cons (pe_lc (own := [("name", 14)]) (g := gName 14) (by rfl) sc_l_script_try.nd (pi_list (pv 12)) (blkOk_by (own := [("name", 14)]) (by rfl)) (fun _ _ _ _ _ => (pg_name (i := 14) sc_l_script_try.nd rfl (Or.inl rfl))) (fun _ _ _ _ _ => pts_nil) (fun _ _ _ _ _ => (pe_tup (pa_cons (pe_call (ok_l_script_factor_drawn T) (hr.mono (by decide)) (by rfl) T.g_l_script_factor_drawn T.F_l_script_factor_drawn.kp T.b_l_script_factor_drawn .nil pass0 (pa_cons (pv 0) (pa_cons (pv 1) pa_nil))) (pa_cons (pv 14) pa_nil))))) pa_nil)) pa_nil))))))) pss_nil)
  (pss_cons (ps_if (pt_cmpR (op_eqD hr.units) (pe_dget (hu_of hr) (pv 3) (pv 7) (fun _ _ => rfl)) (pe_tup pa_nil) (nomark _)) (pss_one (ps_ret pe_non)) pss_nil)
  (pss_cons (ps_set (i := 9) sc_l_script_try.nd rfl (Or.inr rfl) (pe_call (ok_l_ofT T) (hr.mono (by decide)) (by rfl) T.g_l_of T.F_l_of.kp T.b_l_of .nil pass0 (pa_cons (pv 0) (pa_cons (pe_dget (hu_of hr) (pv 3) (pv 7) (fun _ _ => rfl)) pa_nil))))
  (pss_cons (ps_if (pt_cmpR op_eq (pv 4) pe_str (nomark _)) (pss_one (ps_ret (pe_tup (pa_cons pe_str (pa_cons (pe_tup (pa_cons (pv 9) (pa_cons (pv 7) pa_nil))) pa_nil))))) pss_nil)
  (pss_cons (ps_set (i := 13) sc_l_script_try.nd rfl (Or.inl rfl) (pe_call (ok_l_of T) (hr.mono (by decide)) (by rfl) T.g_l_of T.F_l_of.kp T.b_l_of .nil pass0 (pa_cons (pv 0) (pa_cons (pe_lc (own := [("spot", 16)]) (g := gName 16) (by rfl) sc_l_script_try.nd (pi_tup (pe_tup (pa_cons pe_int (pa_cons pe_int (pa_cons pe_int (pa_cons pe_int pa_nil)))))) (blkOk_by (own := [("spot", 16)]) (by rfl)) (fun _ _ _ _ _ => (pg_name (i := 16) sc_l_script_try.nd rfl (Or.inl rfl))) (fun _ _ _ _ _ => (pts_one (pt_cmpR op_ne (pv 16) (pv 9) (nomark _)))) (fun _ _ _ _ _ => (pv 16))) pa_nil))))
  (pss_one (ps_ret (pe_tup (pa_cons pe_str (pa_cons (pe_ifExp (pt_cmpR op_eq (pe_call (ok_l_take T) (hr.mono (by decide)) (by rfl) T.g_l_take T.F_l_take.kp T.b_l_take .nil pass0 (pa_cons (pv 0) (pa_cons pe_int pa_nil))) pe_int (nomark _)) (pe_tup (pa_cons (pv 9) (pa_cons (pv 13) (pa_cons (pv 7) pa_nil)))) (pe_tup (pa_cons (pv 13) (pa_cons (pv 9) (pa_cons (pv 7) pa_nil))))) pa_nil)))))))))))))), ?_⟩
    have wide : ∀ {n : Nat}, n ≤ 1000 → n ≤ sizeLine := fun h => Nat.le_trans h (by decide)
    refine ⟨_, rfl, kd, kvs, rfl, .inl gk, fun nl hnl => ?_⟩
    rw [hkn.names]
    have d0 := (Dr.start hP (Nat.le_refl _)).new (o := .lst ((kn.map (·.1)).map V.str)) hnl
    have g0 : (upd H nl (.lst ((kn.map (·.1)).map V.str))) nl = some (.lst ((kn.map (·.1)).map V.str)) := upd_same
    generalize upd H nl (.lst ((kn.map (·.1)).map V.str)) = H0 at *
    obtain ⟨cs, ec, hc, lc⟩ := cut_strs (kn.map (·.1)) (some (-3)) none
    rw [List.length_map] at lc
    have nnl := hP.ne hnl
    refine ⟨_, rfl, _, rfl, _, rfl, _, rfl, nl, _, rfl, SqL.of g0, fun c1 hc1 => ?_⟩
    rw [ec]
    have s1 := same_new (o := .lst (cs.map V.str)) hc1
    refine ⟨nl, c1, _, _, rfl, rfl, s1 _ _ g0, upd_same, ?_, fun m1 hm1 => ?_⟩
    · rw [List.length_map, List.length_map, List.length_map]
      exact wide (by omega)
    rw [← List.map_append]
    have s2 := s1.trans (same_new (o := .lst ((kn.map (·.1) ++ cs).map V.str)) hm1)
    refine ⟨_, rfl, _, rfl, _, rfl, nl, _, rfl, SqL.of (s2 _ _ g0), fun c2 hc2 => ?_⟩
    rw [ec]
    have s3 := s2.trans (same_new (o := .lst (cs.map V.str)) hc2)
    refine ⟨m1, c2, _, _, rfl, rfl, by rw [upd_ne (ne_of_none upd_same hc2)]; exact upd_same, upd_same, ?_, fun ne hne => ?_⟩
    · rw [List.length_map, List.length_append, List.length_map, List.length_map]
      exact wide (by omega)
    rw [← List.map_append]
    obtain ⟨zs, ez⟩ : ∃ zs, zs = kn.map (·.1) ++ cs ++ cs := ⟨_, rfl⟩
    rw [← ez]
    have zmem : ∀ z ∈ zs, ∃ gs, glk kn z = some gs := fun z hz => by
      rw [ez] at hz
      rcases List.mem_append.mp hz with hz | hz
      · rcases List.mem_append.mp hz with hz | hz
        · exact glk_of hz
        · exact glk_of (hc z hz)
      · exact glk_of (hc z hz)
    have zl : 1 ≤ zs.length ∧ zs.length ≤ 300 := by
      rw [ez, List.length_append, List.length_append, List.length_map]
      omega
    have d1 := (d0.sm9 s3).new (o := .lst (zs.map V.str)) hne
    have gz : (upd (upd (upd (upd H0 c1 (.lst (cs.map V.str))) m1 (.lst ((kn.map (·.1) ++ cs).map V.str))) c2 (.lst (cs.map V.str))) ne (.lst (zs.map V.str))) ne = some (.lst (zs.map V.str)) := upd_same
    have nne := (d0.sm9 s3).2.ne hne
    generalize upd (upd (upd (upd H0 c1 (.lst (cs.map V.str))) m1 (.lst ((kn.map (·.1) ++ cs).map V.str))) c2 (.lst (cs.map V.str))) ne (.lst (zs.map V.str)) = H1 at *
    have zl2 : 0 < (zs.map V.str).length ∧ (zs.map V.str).length < 100000 := by
      rw [List.length_map]
      omega
    refine ⟨_, rfl, _, rfl, p, ne, _, k + 38, rfl, d1.2.mono (by omega), SqL.of gz, nne, zl2.1, zl2.2, fun i1 x1 H2 hx1 d2 => ?_⟩
    obtain ⟨z1, hz1, rfl⟩ := str_at hx1
    have gz2 := d2.st nne gz
    refine ⟨_, rfl, _, rfl, p, ne, _, k + 36, rfl, d2.2.mono (by omega), SqL.of gz2, nne, zl2.1, zl2.2, fun i2 x2 H3 hx2 d3 => ?_⟩
    obtain ⟨z2, hz2, rfl⟩ := str_at hx2
    refine ⟨wide (show 2 ≤ 1000 by decide), fun tw htw => ?_⟩
    have d4 := ((d1.trans d2).trans d3).new (o := .tup [.str z1, .str z2]) htw
    have gz4 : (upd H3 tw (.tup [.str z1, .str z2])) ne = some (.lst (zs.map V.str)) := same_new htw _ _ (d3.st nne gz2)
    refine ⟨tw, _, rfl, SqT.of upd_same, rfl, _, _, rfl, _, _, rfl, rfl, ?_⟩
    generalize upd H3 tw (.tup [.str z1, .str z2]) = H4 at *
    have tk4 := d4.tk hP
    have nkd := hP.neD gk
    have gk4 := d4.st nkd gk
    have hk4 := hkn.mv tk4
    obtain ⟨gs1, eg1⟩ := zmem z1 (List.mem_of_getElem? hz1)
    obtain ⟨gs2, eg2⟩ := zmem z2 (List.mem_of_getElem? hz2)
    obtain ⟨v1, vl1, vt1⟩ := hk4.get eg1
    obtain ⟨a1, rfl, va1⟩ := vt1.gs
    obtain ⟨v2, vl2, vt2⟩ := hk4.get eg2
    obtain ⟨a2, rfl, va2⟩ := vt2.gs
    have l1 := (hko.at eg1).len
    have l2 := (hko.at eg2).len
    unfold tryForms at hform
    simp only [List.mem_cons, List.mem_nil_iff, or_false] at hform
    rcases hform with rfl | rfl | rfl | rfl
    · -- "*"
      refine ⟨_, rfl, rfl, _, rfl, ?_⟩
      refine (show (if decide (V.str _ = V.str _) = true then _ else _) from ifS_eq ?_)
      refine ⟨wide (show 4 ≤ 1000 by decide), fun t4 ha => ?_⟩
      have s1 := same_new (o := .tup (([1, 2, 3, 4] : List Int).map V.int)) ha
      have g4 : (upd H4 t4 (.tup (([1, 2, 3, 4] : List Int).map V.int))) t4 = some (.tup (([1, 2, 3, 4] : List Int).map V.int)) := upd_same
      have e1 : upd H4 t4 (.tup [.int 1, .int 2, .int 3, .int 4]) = upd H4 t4 (.tup (([1, 2, 3, 4] : List Int).map V.int)) := rfl
      rw [e1]
      generalize upd H4 t4 (.tup (([1, 2, 3, 4] : List Int).map V.int)) = H5 at *
      refine ⟨t4, rfl, ⟨_, SqT.of g4⟩, fun D hD => ?_⟩
      refine lc_filtT (K := K) (a := t4) (xs := ([1, 2, 3, 4] : List Int).map V.int) (fun v => inV v ((gs1 ++ gs2).map V.int)) (by decide) hD (SqT.of g4) (fun _ => rfl) (fun x H' Q hx s2 kk => ?_) (fun x H' Q kk => ⟨_, rfl, kk⟩) (fun H' s2 gD => ?_)
      · obtain ⟨y, _, rfl⟩ := List.mem_map.mp hx
        have s5 := s1.trans s2
        refine ⟨_, rfl, _, rfl, _, rfl, kd, .ref a1, rfl, .inl ⟨kvs, .inr z1, .inl (s5 _ _ gk4), rfl, vl1.symm⟩, _, rfl, _, rfl, kd, .ref a2, rfl, .inl ⟨kvs, .inr z2, .inl (s5 _ _ gk4), rfl, vl2.symm⟩, ?_⟩
        refine catI (K := K) (SqT.tk va1 (Same.tk s5)) (SqT.tk va2 (Same.tk s5)) (by rw [List.length_map, List.length_map]; omega) fun bt H0 s0 g0 => ?_
        rw [← List.map_append] at g0
        exact ⟨bt, _, rfl, .inr g0, rfl, flat_ints _, _, rfl, kk _ s0⟩
      · refine ⟨D, _, rfl, .inl (SqL.of gD), ?_⟩
        have d6 := (d4.sm9 s1).sm9 s2
        refine ⟨_, rfl, _, rfl, _, _, rfl, rfl, _, rfl, ?_⟩
        refine ite2 (fun _ => ?_) (fun _ => ?_)
        · refine ⟨_, rfl, _, rfl, wide (show 2 ≤ 1000 by decide), fun t ht => ⟨wide (show 2 ≤ 1000 by decide), fun a ha => ?_⟩⟩
          have gt : (upd H' t (.tup [.str z1, .str z2])) t = some (.tup [.str z1, .str z2]) := upd_same
          refine q a (.prod z1 z2) _ (((d6.new ht).new ha).mono (by omega)) ((d6.new ht).fr ha) ⟨⟨_, eg1⟩, _, eg2⟩ ?_
          exact .tup (SqT.of upd_same) (.cons (.str _) (.cons (.tup (SqT.of (same_new ha _ _ gt)) (.cons (.str _) (.cons (.str _) .nil))) .nil))
        · exact q0 _ (d6.mono (by omega))
    · -- "add"
      refine ⟨_, rfl, rfl, _, rfl, ?_⟩
      refine (show (if decide (V.str _ = V.str _) = true then _ else _) from ifS_ne (by decide) ?_)
      refine ⟨_, rfl, rfl, _, rfl, ?_⟩
      refine (show (if decide (V.str _ = V.str _) = true then _ else _) from ifS_eq ?_)
      refine ⟨_, rfl, ne, rfl, ⟨_, SqL.of gz4⟩, fun D hD => ?_⟩
      refine lc_filtL (K := K) (a := ne) (xs := zs.map V.str) (kinP kn gs1) (by rw [List.length_map]; omega) hD (SqL.of gz4) (fun _ => rfl) (fun x H' Q hx s2 kk => ?_) (fun x H' Q kk => ⟨_, rfl, kk⟩) (fun H' s2 gD => ?_)
      · obtain ⟨y, hy, rfl⟩ := List.mem_map.mp hx
        obtain ⟨gy, ey⟩ := zmem y hy
        obtain ⟨vy, vly, vty⟩ := hk4.get ey
        refine ⟨_, rfl, _, rfl, kd, vy, rfl, .inl ⟨kvs, .inr y, .inl (s2 _ _ gk4), rfl, vly.symm⟩, _, rfl, _, rfl, kd, .ref a1, rfl, .inl ⟨kvs, .inr z1, .inl (s2 _ _ gk4), rfl, vl1.symm⟩, ?_⟩
        refine ⟨gsD gy, gsD gs1, (vty.mv (Same.tk s2)).dp, (vt1.mv (Same.tk s2)).dp, shaped_gs (hko.at ey), shaped_gs (hko.at eg1), _, rfl, ?_⟩
        rw [eqv_gs, show decide (gy = gs1) = kinP kn gs1 (.str y) by
          show _ = decide (glk kn y = some gs1)
          rw [ey]
          exact decide_eq_decide.mpr ⟨congrArg some, Option.some.inj⟩]
        exact kk _ (Same.refl _)
      rw [filt_strs (kinP kn gs1) (fun z => decide (glk kn z = some gs1)) (fun _ => rfl)] at gD
      obtain ⟨ks, eks⟩ : ∃ ks, ks = zs.filter fun z => decide (glk kn z = some gs1) := ⟨_, rfl⟩
      rw [← eks] at gD
      have kok : ∀ z ∈ ks, glk kn z = some gs1 := fun z hz => by
        rw [eks] at hz
        exact of_decide_eq_true (List.mem_filter.mp hz).2
      have kl : 0 < (ks.map V.str).length ∧ (ks.map V.str).length < 100000 := by
        rw [List.length_map, eks]
        refine ⟨List.length_pos_iff.mpr fun e => ?_, Nat.lt_of_le_of_lt (List.length_filter_le _ _) (by omega)⟩
        have : z1 ∈ zs.filter fun z => decide (glk kn z = some gs1) := List.mem_filter.mpr ⟨List.mem_of_getElem? hz1, decide_eq_true eg1⟩
        rw [e] at this
        cases this
      have d5 := d4.sm9 s2
      have nDp : D ≠ p := d4.2.ne hD
      refine ⟨_, rfl, p, 3, k + 30, rfl, d5.2.mono (by omega), by decide, by decide, fun r H6 r0 r1 d6 => ?_⟩
      obtain ⟨n, hn⟩ : ∃ n : Nat, (1 : Int) + r = (n : Int) := ⟨(1 + r).toNat, by omega⟩
      have n13 : 1 ≤ n ∧ n ≤ 3 := by omega
      have gD6 := d6.st nDp gD
      refine ⟨_, _, rfl, rfl, (n : Int), congrArg (fun z => [V.int z]) hn, (by omega), (by omega), fun D2 hD2 => ?_⟩
      have nD2 : D2 ≠ p := d6.2.ne hD2
      refine lc_range (lo := 0) (n := n) (fun i H' => i ≤ n ∧ Dr p (k + 30 - i) H6 H' ∧ ∃ bs : List Str, H' D2 = some (.lst (bs.map V.str)) ∧ bs.length = i ∧ ∀ z ∈ bs, z ∈ ks) ⟨Nat.zero_le _, (Dr.start d6.2 (by omega)).new hD2, [], upd_same, rfl, fun _ h => by cases h⟩ ?_ ?_
      · rintro i H' hi ⟨_, d7, bs, hbs, hbl, hba⟩
        refine ⟨rfl, ?_⟩
        refine ⟨_, rfl, _, rfl, p, D, _, k + 30 - i - 1, rfl, d7.2.mono (by omega), SqL.of (d7.st nDp gD6), nDp, kl.1, kl.2, fun j x H8 hx d8 => ?_⟩
        obtain ⟨z, hz, rfl⟩ := str_at hx
        refine ⟨_, d8.st nD2 hbs, by rw [List.length_map]; exact Nat.lt_of_le_of_lt (show bs.length ≤ 3 by omega) (by decide), hi, ((d7.trans d8).mut hD2 nD2).mono (by omega), bs ++ [z], ?_, by rw [List.length_append, hbl]; rfl, fun y hy => ?_⟩
        · rw [upd_same, List.map_append]
          rfl
        · rcases List.mem_append.mp hy with hy | hy
          · exact hba y hy
          · rw [List.mem_singleton.mp hy]
            exact List.mem_of_getElem? hz
      rintro H7 ⟨_, d7, bs, hbs, hbl, hba⟩
      have d07 := (d5.trans d6).trans d7
      refine ⟨_, rfl, D2, rfl, ⟨_, SqL.of hbs⟩, fun D3 hD3 => ?_⟩
      have nD3 : D3 ≠ p := d7.2.ne hD3
      refine lc_list (K := K) (a := D2) (xs := bs.map V.str) (fun i H' => i ≤ n ∧ Dr p (k + 20 - 2 * i) H7 H' ∧ ∃ (ys : List V) (fs : List (Fac × Str)), H' D3 = some (.lst ys) ∧ TdAll K H' ys (fs.map fun f => .tuple [facD f.1, .str f.2]) ∧ fs.length = i ∧ (∀ f ∈ fs, FacOk f.1) ∧ ∀ f ∈ fs, f.2 ∈ ks)
        ⟨Nat.zero_le _, ((Dr.start d7.2 (by omega)).new hD3), [], [], upd_same, .nil, rfl, fun _ h => (by cases h), fun _ h => (by cases h)⟩ (fun i H' _ ⟨_, d, _⟩ => SqL.of (d.st nD2 hbs)) ?_ ?_
      · rintro i x H' hx ⟨_, d8, ys, fs, g3, ht, hl, hf, hk⟩
        obtain ⟨z, hz, rfl⟩ := str_at hx
        have hi : i < n := by
          have := (List.getElem?_eq_some_iff.mp hz).1
          omega
        refine ⟨rfl, ?_⟩
        refine ⟨_, rfl, _, rfl, p, k + 20 - 2 * i - 2, rfl, d8.2.mono (by omega), fun fa f H9 d9 nfa fo gfa => ?_⟩
        refine ⟨_, rfl, wide (show 2 ≤ 1000 by decide), fun tt htt => ?_⟩
        have st := same_new (o := .tup [.ref fa, .str z]) htt
        have g39 := st _ _ (d9.st nD3 g3)
        refine ⟨_, g39, ?_, hi, (((d8.trans d9).new htt).mut hD3 nD3).mono (by omega), ys ++ [.ref tt], fs ++ [(f, z)], ?_, ?_, ?_, ?_, ?_⟩
        · have := ht.len
          rw [List.length_map] at this
          exact Nat.lt_of_le_of_lt (show ys.length ≤ 3 by omega) (by decide)
        · exact upd_same
        · have tk : TK H' (upd (upd H9 tt (.tup [.ref fa, .str z])) D3 (.lst (ys ++ [.ref tt]))) := ((d9.tk d8.2).trans (Same.tk st)).trans (tk_lst g39)
          rw [List.map_append]
          refine TdAll.snoc ?_ (ht.mv tk)
          have tk2 := tk_lst (o := .lst (ys ++ [.ref tt])) g39
          refine .tup (SqT.tk (SqT.of upd_same) tk2) (.cons (.tup (SqT.tk (SqT.of (st _ _ gfa)) tk2) (.cons (.int _) (.cons (.int _) .nil))) (.cons (.str _) .nil))
        · rw [List.length_append, hl]
          rfl
        · intro y hy
          rcases List.mem_append.mp hy with hy | hy
          · exact hf y hy
          · rw [List.mem_singleton.mp hy]
            exact fo
        · intro y hy
          rcases List.mem_append.mp hy with hy | hy
          · exact hk y hy
          · rw [List.mem_singleton.mp hy]
            exact hba z (List.mem_of_getElem? hz)
      rintro H8 ⟨_, d8, ys, fs, g3, ht, hl, hf, hk⟩
      rw [List.length_map, hbl] at hl
      refine ⟨D3, _, rfl, .inl ⟨SqL.of g3, fun t ht' => ⟨wide (show 2 ≤ 1000 by decide), fun a ha => ?_⟩⟩⟩
      have st := same_new (o := .tup ys) ht'
      have gt : (upd H8 t (.tup ys)) t = some (.tup ys) := upd_same
      have sa := same_new (o := .tup [.str "add", .ref t]) ha
      have d9 := (d07.trans d8).new (o := .tup ys) ht'
      refine q a (.add fs) _ ((d9.new ha).mono (by omega)) (d9.fr ha) ⟨fun e => ?_, by omega, hf, gs1, fun f hf => kok _ (hk f hf)⟩ ?_
      · rw [e] at hl
        exact absurd hl (by show ¬ (0 = n); omega)
      · exact .tup (SqT.of upd_same) (.cons (.str _) (.cons (.tup (SqT.of (sa _ _ gt)) (ht.mv (Same.tk (st.trans sa)))) .nil))
    · refine ⟨_, rfl, rfl, _, rfl, ?_⟩
      refine (show (if decide (V.str _ = V.str _) = true then _ else _) from ifS_ne (by decide) ?_)
      refine ⟨_, rfl, rfl, _, rfl, ?_⟩
      refine (show (if decide (V.str _ = V.str _) = true then _ else _) from ifS_ne (by decide) ?_)
      refine ⟨_, rfl, _, rfl, kd, .ref a1, rfl, .inl ⟨kvs, .inr z1, .inl gk4, rfl, vl1.symm⟩, wide (show 0 ≤ 1000 by decide), fun te hte => ?_⟩
      have se := same_new (o := .tup []) hte
      refine ⟨gsD gs1, gsD [], (vt1.mv (Same.tk se)).dp, .tup (SqT.of upd_same) .nil, shaped_gs (hko.at eg1), shaped_gs gsok_nil, _, rfl, ?_⟩
      rw [eqv_gs]
      have d5 := d4.new (o := .tup []) hte
      by_cases e0 : gs1 = []
      · rw [decide_eq_true e0]
        refine iteT ?_
        exact q0 _ (d5.mono (by omega))
      rw [decide_eq_false e0]
      refine iteF ?_
      have va5 := SqT.tk va1 (Same.tk se)
      have gk5 := se _ _ gk4
      generalize upd H4 te (.tup []) = H5 at *
      refine ⟨_, rfl, _, rfl, _, rfl, kd, .ref a1, rfl, .inl ⟨kvs, .inr z1, .inl gk5, rfl, vl1.symm⟩, p, a1, _, k + 30, rfl, d5.2.mono (by omega), va5, ?_, ?_, fun i x H6 hx d6 => ?_⟩
      · rw [List.length_map]
        exact List.length_pos_iff.mpr e0
      · rw [List.length_map]
        omega
      obtain ⟨g, hg, rfl⟩ := int_at hx
      have gm := List.mem_of_getElem? hg
      have d6 := d5.trans d6
      refine ⟨_, rfl, rfl, _, rfl, ?_⟩
      refine (show (if decide (V.str _ = V.str _) = true then _ else _) from ifS_eq ?_)
      refine ⟨_, rfl, _, rfl, wide (show 2 ≤ 1000 by decide), fun t ht => ⟨wide (show 2 ≤ 1000 by decide), fun a ha => ?_⟩⟩
      have gt : (upd H6 t (.tup [.int g, .str z1])) t = some (.tup [.int g, .str z1]) := upd_same
      refine q a (.close g z1) _ (((d6.new ht).new ha).mono (by omega)) ((d6.new ht).fr ha) ⟨gs1, eg1, gm⟩ ?_
      exact .tup (SqT.of upd_same) (.cons (.str _) (.cons (.tup (SqT.of (same_new ha _ _ gt)) (.cons (.int _) (.cons (.str _) .nil))) .nil))
    · refine ⟨_, rfl, rfl, _, rfl, ?_⟩
      refine (show (if decide (V.str _ = V.str _) = true then _ else _) from ifS_ne (by decide) ?_)
      refine ⟨_, rfl, rfl, _, rfl, ?_⟩
      refine (show (if decide (V.str _ = V.str _) = true then _ else _) from ifS_ne (by decide) ?_)
      refine ⟨_, rfl, _, rfl, kd, .ref a1, rfl, .inl ⟨kvs, .inr z1, .inl gk4, rfl, vl1.symm⟩, wide (show 0 ≤ 1000 by decide), fun te hte => ?_⟩
      have se := same_new (o := .tup []) hte
      refine ⟨gsD gs1, gsD [], (vt1.mv (Same.tk se)).dp, .tup (SqT.of upd_same) .nil, shaped_gs (hko.at eg1), shaped_gs gsok_nil, _, rfl, ?_⟩
      rw [eqv_gs]
      have d5 := d4.new (o := .tup []) hte
      by_cases e0 : gs1 = []
      · rw [decide_eq_true e0]
        refine iteT ?_
        exact q0 _ (d5.mono (by omega))
      rw [decide_eq_false e0]
      refine iteF ?_
      have va5 := SqT.tk va1 (Same.tk se)
      have gk5 := se _ _ gk4
      generalize upd H4 te (.tup []) = H5 at *
      refine ⟨_, rfl, _, rfl, _, rfl, kd, .ref a1, rfl, .inl ⟨kvs, .inr z1, .inl gk5, rfl, vl1.symm⟩, p, a1, _, k + 30, rfl, d5.2.mono (by omega), va5, ?_, ?_, fun i x H6 hx d6 => ?_⟩
      · rw [List.length_map]
        exact List.length_pos_iff.mpr e0
      · rw [List.length_map]
        omega
      obtain ⟨g, hg, rfl⟩ := int_at hx
      have gm := List.mem_of_getElem? hg
      have d6 := d5.trans d6
      refine ⟨_, rfl, rfl, _, rfl, ?_⟩
      refine (show (if decide (V.str _ = V.str _) = true then _ else _) from ifS_ne (by decide) ?_)
      have g14 := (hko.at eg1).rng g gm
      refine ⟨_, rfl, wide (show 4 ≤ 1000 by decide), fun t4 ha => ?_⟩
      have s1 := same_new (o := .tup (([1, 2, 3, 4] : List Int).map V.int)) ha
      have g4 : (upd H6 t4 (.tup (([1, 2, 3, 4] : List Int).map V.int))) t4 = some (.tup (([1, 2, 3, 4] : List Int).map V.int)) := upd_same
      have e1 : upd H6 t4 (.tup [.int 1, .int 2, .int 3, .int 4]) = upd H6 t4 (.tup (([1, 2, 3, 4] : List Int).map V.int)) := rfl
      rw [e1]
      generalize upd H6 t4 (.tup (([1, 2, 3, 4] : List Int).map V.int)) = H7 at *
      refine ⟨t4, rfl, ⟨_, SqT.of g4⟩, fun D hD => ?_⟩
      refine lc_filtT (K := K) (a := t4) (xs := ([1, 2, 3, 4] : List Int).map V.int) (fun v => !decide (v = .int g)) (by decide) hD (SqT.of g4) (fun _ => rfl) (fun x H' Q hx s2 kk => ?_) (fun x H' Q kk => ⟨_, rfl, kk⟩) (fun H' s2 gD => ?_)
      · obtain ⟨y, _, rfl⟩ := List.mem_map.mp hx
        exact ⟨_, rfl, _, rfl, rfl, _, rfl, kk _ (Same.refl _)⟩
      rw [filt_ints _ (fun x => !decide (x = g)) (fun y => by rw [show decide (V.int y = V.int g) = decide (y = g) from decide_eq_decide.mpr ⟨V.int.inj, congrArg V.int⟩])] at gD
      have nDp : D ≠ p := (d6.sm9 s1).2.ne hD
      have d8 := (d6.sm9 s1).sm9 s2
      refine ⟨p, D, _, k + 20, rfl, d8.2.mono (by omega), SqL.of gD, nDp, ?_, ?_, fun j x H9 hx d9 => ?_⟩
      · rw [List.length_map]
        exact g1234 g g14.1 g14.2
      · rw [List.length_map]
        exact Nat.lt_of_le_of_lt (List.length_filter_le _ _) (by decide)
      obtain ⟨h, hh, rfl⟩ := int_at hx
      have hh := List.mem_filter.mp (List.mem_of_getElem? hh)
      have h14 : 1 ≤ h ∧ h ≤ 4 := by
        have := hh.1
        simp only [List.mem_cons, List.mem_nil_iff, or_false] at this
        omega
      have hne : h ≠ g := fun e => by
        have := hh.2
        rw [e] at this
        simp at this
      have d9 := d8.trans d9
      refine ⟨_, rfl, p, 2, k + 10, rfl, d9.2.mono (by omega), by decide, by decide, fun r H10 r0 r1 d10 => ⟨rfl, _, rfl, ?_⟩⟩
      have d10 := d9.trans d10
      refine ite2 (fun _ => ?_) (fun _ => ?_)
      · refine ⟨_, rfl, _, rfl, _, rfl, wide (show 3 ≤ 1000 by decide), fun t ht => ⟨wide (show 2 ≤ 1000 by decide), fun a ha => ?_⟩⟩
        have gt : (upd H10 t (.tup [.int g, .int h, .str z1])) t = some (.tup [.int g, .int h, .str z1]) := upd_same
        refine q a (.turn g h z1) _ (((d10.new ht).new ha).mono (by omega)) ((d10.new ht).fr ha) ⟨fun e => hne e.symm, g14, h14, gs1, eg1, .inl gm⟩ ?_
        exact .tup (SqT.of upd_same) (.cons (.str _) (.cons (.tup (SqT.of (same_new ha _ _ gt)) (.cons (.int _) (.cons (.int _) (.cons (.str _) .nil)))) .nil))
      · refine ⟨_, rfl, _, rfl, _, rfl, wide (show 3 ≤ 1000 by decide), fun t ht => ⟨wide (show 2 ≤ 1000 by decide), fun a ha => ?_⟩⟩
        have gt : (upd H10 t (.tup [.int h, .int g, .str z1])) t = some (.tup [.int h, .int g, .str z1]) := upd_same
        refine q a (.turn h g z1) _ (((d10.new ht).new ha).mono (by omega)) ((d10.new ht).fr ha) ⟨hne, h14, g14, gs1, eg1, .inr gm⟩ ?_
        exact .tup (SqT.of upd_same) (.cons (.str _) (.cons (.tup (SqT.of (same_new ha _ _ gt)) (.cons (.int _) (.cons (.int _) (.cons (.str _) .nil)))) .nil))
end
end OG
set_option Elab.async false
set_option linter.all false
set_option maxRecDepth 100000
set_option maxHeartbeats 8000000
namespace OG
open PySem PySem.Spec PyProof.Rows L2
/-- a text that can be laid, and is short -/
structure Nice (z : Str) : Prop where
  ok : PyData.strOk z = true
  len : z.length ≤ 20
  lo : ∀ c ∈ tl z, 48 ≤ c
def Frm.strs : Frm → List Str
  | .one _ => []
  | .road k _ _ => [k]
  | .prod a b => [a, b]
  | .close _ a => [a]
  | .turn _ _ a => [a]
  | .add fs => fs.map (·.2)
structure LnNice (l : Ln) : Prop where
  nm : Nice l.nm
  fm : ∀ z ∈ l.fm.strs, Nice z
theorem nice_nm {z : Str} (h : IsNm z) : Nice z := by
  refine ⟨?_, Nat.le_trans h.2.1 (by decide), fun c hc => ?_⟩
  rotate_left
  · have := h.2.2 c hc
    unfold abc at this
    simp only [List.mem_cons, List.mem_nil_iff, or_false] at this
    omega
  unfold PyData.strOk
  rw [← Array.all_toList, List.all_eq_true]
  intro c hc
  have := h.2.2 c hc
  unfold abc at this
  refine decide_eq_true ?_
  simp only [List.mem_cons, List.mem_nil_iff, or_false] at this
  omega
theorem nice_at {i : Nat} {z : Str} (h : NmAt i z) : Nice z := by
  refine ⟨?_, Nat.le_trans h.len.2 (by decide), fun c hc => ?_⟩
  rotate_left
  · have := h.nice c hc
    unfold niceC at this
    simp only [Bool.or_eq_true, Bool.and_eq_true, decide_eq_true_eq] at this
    omega
  unfold PyData.strOk
  rw [← Array.all_toList, List.all_eq_true]
  intro c hc
  have := h.nice c hc
  unfold niceC at this
  refine decide_eq_true ?_
  simp only [Bool.or_eq_true, Bool.and_eq_true, decide_eq_true_eq] at this
  omega
theorem FrmOk.nice {kn : Kn} (hn : ∀ z ∈ kn.map (·.1), Nice z) : ∀ {f : Frm}, FrmOk kn f → ∀ z ∈ f.strs, Nice z := by
  have key : ∀ {a : Str} {gs : List Int}, glk kn a = some gs → Nice a := fun h => hn _ (List.mem_map.mpr ⟨_, glk_some h, rfl⟩)
  intro f h z hz
  cases f with
  | one gs => cases hz
  | road k g h' =>
    rw [List.mem_singleton.mp hz]
    exact nice_nm h.1
  | prod a b =>
    obtain ⟨⟨ga, ea⟩, gb, eb⟩ := h
    have hz : z ∈ [a, b] := hz
    simp only [List.mem_cons, List.mem_nil_iff, or_false] at hz
    rcases hz with rfl | rfl
    · exact key ea
    · exact key eb
  | close g a =>
    obtain ⟨gs, e, _⟩ := h
    rw [List.mem_singleton.mp hz]
    exact key e
  | turn g h' a =>
    obtain ⟨_, _, _, gs, e, _⟩ := h
    rw [List.mem_singleton.mp hz]
    exact key e
  | add fs =>
    obtain ⟨_, _, _, gs, e⟩ := h
    obtain ⟨f, hf, rfl⟩ := List.mem_map.mp hz
    exact key (e f hf)
theorem FrmOk.fit {kn : Kn} {f : Frm} (hk : KnOk kn) (h : FrmOk kn f) (n : ∀ z ∈ f.strs, Nice z) : FrmFit f := by
  cases f with
  | one gs => exact h
  | road k g h' => exact ⟨(n k List.mem_cons_self).len, h.2.1, h.2.2⟩
  | prod a b => exact ⟨(n a List.mem_cons_self).len, (n b (List.mem_cons_of_mem _ List.mem_cons_self)).len⟩
  | close g a =>
    obtain ⟨gs, e, hg⟩ := h
    exact ⟨(hk.at e).rng g hg, (n a List.mem_cons_self).len⟩
  | turn g h' a =>
    obtain ⟨_, h1, h2, _⟩ := h
    exact ⟨h1, h2, (n a List.mem_cons_self).len⟩
  | add fs =>
    obtain ⟨_, h1, h2, _⟩ := h
    exact ⟨h1, fun f hf => ⟨h2 f hf, (n f.2 (List.mem_map.mpr ⟨f, hf, rfl⟩)).len⟩⟩
/-! lines as data: they can be laid -/
theorem lay_all : ∀ {ds : List PyData}, (∀ d ∈ ds, d.canLay0 = true) → PyData.canLayAll0 ds = true
  | [], _ => by simp [PyData.canLayAll0]
  | d :: r, h => by simp [PyData.canLayAll0, h d List.mem_cons_self, lay_all fun y hy => h y (List.mem_cons_of_mem _ hy)]
theorem dep_all : ∀ {ds : List PyData} {n : Nat}, (∀ d ∈ ds, d.depth ≤ n) → PyData.depthAll ds ≤ n
  | [], n, _ => by simp [PyData.depthAll]
  | d :: r, n, h => by
    have := h d List.mem_cons_self
    have := dep_all (n := n) fun y hy => h y (List.mem_cons_of_mem _ hy)
    simp only [PyData.depthAll]
    omega
theorem facs_lay {f : Fac × Str} (h : Nice f.2) : (PyData.tuple [facD f.1, .str f.2]).canLay0 = true ∧ (PyData.tuple [facD f.1, .str f.2]).depth ≤ 2 := by
  refine ⟨?_, ?_⟩
  · simp [PyData.canLay0, PyData.canLayAll0, facD, h.ok]
  · simp [PyData.depth, PyData.depthAll, facD]
theorem parts_lay {f : Frm} (h : ∀ z ∈ f.strs, Nice z) : ∀ d ∈ f.partsL, d.canLay0 = true ∧ d.depth ≤ 2 := by
  have str : ∀ {z : Str}, Nice z → (PyData.str z).canLay0 = true ∧ (PyData.str z).depth ≤ 2 := fun h => ⟨by simp [PyData.canLay0, h.ok], by simp [PyData.depth]⟩
  have int : ∀ {z : Int}, (PyData.int z).canLay0 = true ∧ (PyData.int z).depth ≤ 2 := ⟨by simp [PyData.canLay0], by simp [PyData.depth]⟩
  intro d hd
  cases f with
  | one gs =>
    obtain ⟨g, _, rfl⟩ := List.mem_map.mp hd
    exact int
  | road k g h' =>
    have hd : d ∈ [PyData.str k, .int g, .int h'] := hd
    simp only [List.mem_cons, List.mem_nil_iff, or_false] at hd
    rcases hd with rfl | rfl | rfl
    · exact str (h k List.mem_cons_self)
    · exact int
    · exact int
  | prod a b =>
    have hd : d ∈ [PyData.str a, .str b] := hd
    simp only [List.mem_cons, List.mem_nil_iff, or_false] at hd
    rcases hd with rfl | rfl
    · exact str (h a List.mem_cons_self)
    · exact str (h b (List.mem_cons_of_mem _ List.mem_cons_self))
  | close g a =>
    have hd : d ∈ [PyData.int g, .str a] := hd
    simp only [List.mem_cons, List.mem_nil_iff, or_false] at hd
    rcases hd with rfl | rfl
    · exact int
    · exact str (h a List.mem_cons_self)
  | turn g h' a =>
    have hd : d ∈ [PyData.int g, .int h', .str a] := hd
    simp only [List.mem_cons, List.mem_nil_iff, or_false] at hd
    rcases hd with rfl | rfl | rfl
    · exact int
    · exact int
    · exact str (h a List.mem_cons_self)
  | add fs =>
    obtain ⟨f, hf, rfl⟩ := List.mem_map.mp hd
    exact facs_lay (h f.2 (List.mem_map.mpr ⟨f, hf, rfl⟩))
theorem word_ok (f : Frm) : PyData.strOk f.word = true := by cases f <;> (dsimp only [Frm.word]; decide +kernel)
theorem ln_lay {l : Ln} (h : LnNice l) : l.data.canLay0 = true ∧ l.data.depth ≤ 4 := by
  have p := parts_lay h.fm
  have d1 := dep_all (n := 2) fun d hd => (p d hd).2
  refine ⟨?_, ?_⟩
  · unfold Ln.data
    simp only [PyData.canLay0, PyData.canLayAll0, h.nm.ok, word_ok, lay_all fun d hd => (p d hd).1]
    rfl
  · unfold Ln.data
    simp only [PyData.depth, PyData.depthAll]
    omega
theorem lns_shaped {lns : List Ln} (h : ∀ l ∈ lns, LnNice l) : SeqAt.shaped (.list (lns.map Ln.data)) = true ∧ SeqAt.shaped (.tuple (lns.map Ln.data)) = true := by
  have h1 : PyData.canLayAll0 (lns.map Ln.data) = true := lay_all fun d hd => by
    obtain ⟨l, hl, rfl⟩ := List.mem_map.mp hd
    exact (ln_lay (h l hl)).1
  have h2 : PyData.depthAll (lns.map Ln.data) ≤ 4 := dep_all fun d hd => by
    obtain ⟨l, hl, rfl⟩ := List.mem_map.mp hd
    exact (ln_lay (h l hl)).2
  refine ⟨?_, ?_⟩
  · unfold SeqAt.shaped
    rw [Bool.and_eq_true]
    refine ⟨by simp only [PyData.canLay0]; exact h1, decide_eq_true ?_⟩
    simp only [PyData.depth]
    omega
  · unfold SeqAt.shaped
    rw [Bool.and_eq_true]
    refine ⟨by simp only [PyData.canLay0]; exact h1, decide_eq_true ?_⟩
    simp only [PyData.depth]
    omega
theorem lns_eqnil (lns : List Ln) : PyData.eqv (.list (lns.map Ln.data)) (.list []) = decide (lns = []) := by
  cases lns with
  | nil => simp [PyData.eqv, PyData.eqvAll]
  | cons d r => simp [PyData.eqv, PyData.eqvAll]
end OG
set_option Elab.async false
set_option linter.all false
set_option maxRecDepth 100000
set_option maxHeartbeats 8000000
namespace OG
open PySem PySem.Spec PyProof.Rows L2
structure I9 (K : PySem.W.Frag) (p lp kd sd : Addr) (H : Hp) (k : Nat) (lns : List Ln) (xs : List V) (kvs skvs : List (Key × V)) (H' : Hp) : Prop where
  dr : Dr p k H H'
  gl : H' lp = some (.lst xs)
  gk : H' kd = some (.dK kvs)
  gs : H' sd = some (.dK skvs)
  td : TdAll K H' xs (lns.map Ln.data)
  kn : KnD K H' kvs (knOf [] lns)
  sz : SzOk (knOf [] lns) skvs
structure N9 (p lp kd sd : Addr) (H : Hp) : Prop where
  nl : lp ≠ p
  nk : kd ≠ p
  ns : sd ≠ p
  fl : H lp = none
  fk : H kd = none
  fs : H sd = none
  ks : kd ≠ sd
theorem I9.mv {K : PySem.W.Frag} {p lp kd sd : Addr} {H H1 H2 : Hp} {k j : Nat} {lns : List Ln} {xs : List V} {kvs skvs : List (Key × V)} (h : I9 K p lp kd sd H k lns xs kvs skvs H1) (n : N9 p lp kd sd H) (d : Dr p j H1 H2) : I9 K p lp kd sd H j lns xs kvs skvs H2 :=
  ⟨h.dr.trans d, d.st n.nl h.gl, d.st n.nk h.gk, d.st n.ns h.gs, h.td.mv (d.tk h.dr.2), h.kn.mv (d.tk h.dr.2), h.sz⟩
theorem I9.sm {K : PySem.W.Frag} {p lp kd sd : Addr} {H H1 H2 : Hp} {k : Nat} {lns : List Ln} {xs : List V} {kvs skvs : List (Key × V)} (h : I9 K p lp kd sd H k lns xs kvs skvs H1) (s : Same H1 H2) : I9 K p lp kd sd H k lns xs kvs skvs H2 :=
  ⟨h.dr.sm9 s, s _ _ h.gl, s _ _ h.gk, s _ _ h.gs, h.td.mv (Same.tk s), h.kn.mv (Same.tk s), h.sz⟩
structure L9 (lns : List Ln) (i : Nat) : Prop where
  ok : LnsOk [] lns
  len : lns.length = i
  at' : ∀ j l, lns[j]? = some l → NmAt j l.nm
  nice : ∀ l ∈ lns, LnNice l
theorem L9.names {lns : List Ln} {i : Nat} (h : L9 lns i) : ∀ z ∈ (knOf [] lns).map (·.1), Nice z := by
  intro z hz
  rw [knOf_names] at hz
  obtain ⟨l, hl, rfl⟩ := List.mem_map.mp (show z ∈ lns.map (·.nm) from hz)
  exact (h.nice l hl).nm
theorem L9.snoc {lns : List Ln} {i : Nat} (h : L9 lns i) {z : Str} {f : Frm} (hz : NmAt i z) (hf : FrmOk (knOf [] lns) f) : L9 (lns ++ [⟨z, f⟩]) (i + 1) := by
  refine ⟨h.ok.snoc ⟨fun hm => ?_, hz.nm, hf⟩, by rw [List.length_append, h.len]; rfl, fun j l hl => ?_, fun l hl => ?_⟩
  · rw [knOf_names] at hm
    obtain ⟨l, hl, e⟩ := List.mem_map.mp (show z ∈ lns.map (·.nm) from hm)
    obtain ⟨j, hj⟩ := List.mem_iff_getElem?.mp hl
    have h1 := (h.at' j l hj).key
    rw [e, hz.key] at h1
    have := (List.getElem?_eq_some_iff.mp hj).1
    rw [h.len] at this
    omega
  · by_cases e : j < lns.length
    · rw [List.getElem?_append_left e] at hl
      exact h.at' j l hl
    · rw [List.getElem?_append_right (by omega)] at hl
      have e2 : j - lns.length = 0 := by
        have := (List.getElem?_eq_some_iff.mp hl).1
        simp at this
        omega
      rw [e2] at hl
      have : j = i := by
        have := h.len
        omega
      rw [this]
      cases Option.some.inj hl
      exact hz
  · rcases List.mem_append.mp hl with hl | hl
    · exact h.nice l hl
    · rw [List.mem_singleton.mp hl]
      exact ⟨nice_at hz, hf.nice h.names⟩
theorem LnsOk.last {lns : List Ln} {l : Ln} (h : LnsOk [] (lns ++ [l])) : l.nm ∉ (knOf [] lns).map (·.1) := by
  have := (h.at (i := lns.length) (l := l) (by rw [List.getElem?_append_right (Nat.le_refl _), Nat.sub_self]; rfl)).new
  rwa [List.take_left] at this
theorem frmS_ok {kn : Kn} {ks : List Str} (hk : ∀ z ∈ ks, IsNm z) : ∀ {f : Frm}, FrmS ks f → FrmOk kn f
  | .one gs, h => h
  | .road k g h', ⟨h1, h2, h3⟩ => ⟨hk k h1, h2, h3⟩
theorem fresh_of {H H' : Hp} {a : Addr} (s : Same H H') (n : H' a = none) : H a = none := by
  cases e : H a with
  | none => rfl
  | some o =>
    rw [s _ _ e] at n
    cases n
def allForms : List Str := ["simple", "*", "close", "turn", "add"]
section
variable {P : Program} {w : World} {K : PySem.W.Frag} {mg : Str → Option Value} {base : Heap}
def spDrawn9 (K : PySem.W.Frag) : Sp := fun vs H Q _ => ∃ (p bd kt : Addr) (bkvs : List (Key × V)) (ks : List Str) (w m k : Nat) (plain : Bool), vs = [.ref p, .ref bd, .int (w : Int), .int (m : Int), .bl plain] ∧ w ≤ 4 ∧ 1 ≤ m ∧ m ≤ 20 ∧
  H bd = some (.dK bkvs) ∧ valV bkvs (.inr "by") = some (.int 0) ∧ valV bkvs (.inr "kinds") = some (.ref kt) ∧ SqT K H kt (ks.map V.str) ∧ 1 ≤ ks.length ∧ ks.length ≤ 3 ∧ (∀ z ∈ ks, IsNm z) ∧ Pot (k + 100 * m) H p ∧
  ∀ (lp : Addr) (xs : List V) (lns : List Ln) (H' : Hp), Dr p k H H' → H lp = none → lp ≠ p → H' lp = some (.lst xs) → TdAll K H' xs (lns.map Ln.data) → L9 lns m → Q (.ref lp) H'
theorem ok_l_script_drawn (T : Txt K mg) : FnOk P w K mg base CX0 5 T.f_l_script_drawn T.fd_l_script_drawn ["pot", "book", "width", "budget", "is_plain"] (spDrawn9 K) := by
  refine T.F_l_script_drawn.ok sc_l_script_drawn (fun vs H Q E h => ?_) (fun cdv A outer s H vs Q E hr h => ?_)
  · obtain ⟨p, bd, kt, bkvs, ks, w, m, k, plain, rfl, _⟩ := h
    rfl
  · obtain ⟨p, bd, kt, bkvs, ks, w, m, k, plain, rfl, hw, m1, m20, gB, vB, vK, hK, k1, k3, hks, hP, q⟩ := h
    refine ⟨_, (pss_cons (ps_par3 (i := 5) (j := 6) (l := 7) (by rfl) sc_l_script_drawn.nd rfl rfl rfl (by decide) (by decide) (by decide) rfl rfl rfl (pa_cons (pe_lst pa_nil) (pa_cons pe_dnewK (pa_cons pe_dnewK pa_nil))) (by rfl))
  (pss_cons (ps_for PassesOwn.never rfl (pi_range1 (by rfl) T.n_range (pa_cons (pv 3) pa_nil)) (pg_name (i := 8) sc_l_script_drawn.nd rfl (Or.inl rfl)) (C8.pss_cut (ps_set (i := 9) sc_l_script_drawn.nd rfl (Or.inl rfl) (pe_op op_cat (pe_lst (pa_cons pe_str (pa_cons pe_str (pa_cons pe_str (pa_cons pe_str (pa_cons pe_str (pa_cons pe_str (pa_cons pe_str (pa_cons pe_str pa_nil))))))))) (pe_ifExp (pt_val (pv 4)) (pe_lst pa_nil) (pe_lst (pa_cons pe_str (pa_cons pe_str pa_nil))))))
  (pss_cons (ps_par (i := 10) (j := 11) (by rfl) sc_l_script_drawn.nd rfl rfl (by decide) rfl rfl (pa_cons (pe_call (ok_l_of T) (hr.mono (by decide)) (by rfl) T.g_l_of T.F_l_of.kp T.b_l_of .nil pass0 (pa_cons (pv 0) (pa_cons (pv 9) pa_nil))) (pa_cons pe_non pa_nil)) (by rfl))
  (C8.pss_cut (ps_if (PW.pt (pw_and (pt_cmpR (op_neD hr.units) (pv 5) (pe_lst pa_nil) (nomark _)) (pw_and1 (pt_cmpR op_ne (pv 10) pe_str (nomark _))))) (pss_one (ps_set (i := 11) sc_l_script_drawn.nd rfl (Or.inl rfl) (pe_call (ok_l_script_try T) (hr.mono (by decide)) (by rfl) T.g_l_script_try T.F_l_script_try.kp T.b_l_script_try .nil pass0 (pa_cons (pv 0) (pa_cons (pe_dget (hu_of hr) (pv 1) pe_str (fun _ _ => rfl)) (pa_cons (pv 2) (pa_cons (pv 6) (pa_cons (pv 10) pa_nil)))))))) pss_nil)
  (C8.pss_cut (ps_if (PW.pt (pw_or (pt_cmpR op_isN (pv 11) pe_non (nomark _)) (pw_or1 (pt_cmpR op_gt (pe_call (ok_l_script_size T) (hr.mono (by decide)) (by rfl) T.g_l_script_size T.F_l_script_size.kp T.b_l_script_size .nil pass0 (pa_cons (pv 7) (pa_cons (pe_ix ix_tup (pv 11) pe_int (fun _ _ => rfl)) (pa_cons (pe_ix ix_tup (pv 11) pe_int (fun _ _ => rfl)) pa_nil)))) pe_int (nomark _))))) (pss_one (ps_set (i := 11) sc_l_script_drawn.nd rfl (Or.inl rfl) (pe_call (ok_l_script_simple T) (hr.mono (by decide)) (by rfl) T.g_l_script_simple T.F_l_script_simple.kp T.b_l_script_simple .nil pass0 (pa_cons (pv 0) (pa_cons (pe_dget (hu_of hr) (pv 1) pe_str (fun _ _ => rfl)) (pa_cons (pv 2) pa_nil)))))) pss_nil)
  (pss_cons (ps_set (i := 12) sc_l_script_drawn.nd rfl (Or.inl rfl) (pe_call (ok_l_script_name T) (hr.mono (by decide)) (by rfl) T.g_l_script_name T.F_l_script_name.kp T.b_l_script_name .nil pass0 (pa_cons (pv 0) (pa_cons (pv 8) pa_nil))))
  (pss_cons (ps_expr (pe_bm PySem.F.plainAttrs_list PySem.F.slot_list_append PySem.F.type_list_append mt_append (pv 5) (pa_cons (pe_tup (pa_cons (pv 12) (pa_cons (pe_ix ix_tup (pv 11) pe_int (fun _ _ => rfl)) (pa_cons (pe_ix ix_tup (pv 11) pe_int (fun _ _ => rfl)) pa_nil)))) pa_nil)))
  (pss_cons (ps_dput (hu_of hr) (pv 7) (pv 12) (pe_call (ok_l_script_size T) (hr.mono (by decide)) (by rfl) T.g_l_script_size T.F_l_script_size.kp T.b_l_script_size .nil pass0 (pa_cons (pv 7) (pa_cons (pe_ix ix_tup (pv 11) pe_int (fun _ _ => rfl)) (pa_cons (pe_ix ix_tup (pv 11) pe_int (fun _ _ => rfl)) pa_nil)))) rfl)
  (pss_one (ps_dput (hu_of hr) (pv 6) (pv 12) (pe_call (ok_l_script_line_gates T) (hr.mono (by decide)) (by rfl) T.g_l_script_line_gates T.F_l_script_line_gates.kp T.b_l_script_line_gates .nil pass0 (pa_cons (pv 6) (pa_cons (pe_ix ix_tup (pv 11) pe_int (fun _ _ => rfl)) (pa_cons (pe_ix ix_tup (pv 11) pe_int (fun _ _ => rfl)) pa_nil)))) rfl))))))))))
  (pss_one (ps_ret (pv 5))))), ?_⟩
    have wide : ∀ {n : Nat}, n ≤ 1000 → n ≤ sizeLine := fun h => Nat.le_trans h (by decide)
    have nB := hP.neD gB
    refine ⟨wide (show 0 ≤ 1000 by decide), fun lp hlp kd hkd sd hsd => ?_⟩
    have nkp := (hP.same (same_new (o := .lst []) hlp)).ne hkd
    have s3 : Same H (upd (upd (upd H lp (.lst [])) kd (.dK [])) sd (.dK [])) := ((same_new hlp).trans (same_new hkd)).trans (same_new hsd)
    have g3 : (upd (upd (upd H lp (.lst [])) kd (.dK [])) sd (.dK [])) sd = some (.dK []) := upd_same
    have g2 : (upd (upd (upd H lp (.lst [])) kd (.dK [])) sd (.dK [])) kd = some (.dK []) := same_new hsd _ _ upd_same
    have g1 : (upd (upd (upd H lp (.lst [])) kd (.dK [])) sd (.dK [])) lp = some (.lst []) := same_new hsd _ _ (same_new hkd _ _ upd_same)
    have N : N9 p lp kd sd H := ⟨hP.ne hlp, nkp, (hP.same ((same_new hlp).trans (same_new hkd))).ne hsd, hlp, fresh_of (same_new hlp) hkd, fresh_of ((same_new hlp).trans (same_new hkd)) hsd, fun e => by
      rw [← e] at hsd
      rw [upd_same] at hsd
      cases hsd⟩
    generalize upd (upd (upd H lp (.lst [])) kd (.dK [])) sd (.dK []) = H0 at *
    refine ⟨_, _, _, rfl, .int (m : Int), rfl, (m : Int), rfl, (by omega), (by omega), ?_⟩
    obtain ⟨k0, hk0⟩ : ∃ k0, k0 = k + 100 * m := ⟨_, rfl⟩
    rw [← hk0] at hP
    refine for_range (lo := 0) (n := m) (fun i σ H' => ∃ (u8 u9 u10 u11 u12 : Option V) (lns : List Ln) (xs : List V) (kvs skvs : List (Key × V)), σ = [some (.ref p), some (.ref bd), some (.int (w : Int)), some (.int (m : Int)), some (.bl plain), some (.ref lp), some (.ref kd), some (.ref sd), u8, u9, u10, u11, u12] ∧ i ≤ m ∧ L9 lns i ∧
        I9 K p lp kd sd H (k0 - 100 * i) lns xs kvs skvs H' ∧ skvs.length ≤ i)
      ⟨_, _, _, _, _, [], [], [], [], rfl, Nat.zero_le _, ⟨trivial, rfl, fun j l h => by simp at h, fun l h => by cases h⟩, ⟨⟨Same.kp s3, (hP.same s3).mono (by omega)⟩, g1, g2, g3, .nil, .nil, SzOk.nil _⟩, Nat.zero_le _⟩ ?_ ?_
    · rintro i σ H1 hi ⟨u8, u9, u10, u11, u12, lns, xs, kvs, skvs, rfl, _, L, I, hsk⟩
      obtain ⟨c, hc⟩ : ∃ c, c = k0 - 100 * i := ⟨_, rfl⟩
      have hc100 : c ≥ 100 := by omega
      rw [← hc] at I
      refine ⟨fun σ H2 => ∃ (ml : Addr) (ms : List Str) (u10 u11 u12 : Option V), σ = [some (.ref p), some (.ref bd), some (.int (w : Int)), some (.int (m : Int)), some (.bl plain), some (.ref lp), some (.ref kd), some (.ref sd), some (.int (0 + (i : Int))), some (.ref ml), u10, u11, u12] ∧ I9 K p lp kd sd H c lns xs kvs skvs H2 ∧
        H2 ml = some (.lst (ms.map V.str)) ∧ (∀ z ∈ ms, z ∈ allForms) ∧ 1 ≤ ms.length ∧ ms.length ≤ 10 ∧ ml ≠ p, ?_, ?_⟩
      · refine ⟨wide (show 8 ≤ 1000 by decide), fun a ha => ?_⟩
        have sa := same_new (o := .lst ((["simple", "*", "*", "close", "close", "turn", "*", "simple"] : List Str).map V.str)) ha
        have ga : (upd H1 a (.lst ((["simple", "*", "*", "close", "close", "turn", "*", "simple"] : List Str).map V.str))) a = some (.lst ((["simple", "*", "*", "close", "close", "turn", "*", "simple"] : List Str).map V.str)) := upd_same
        have ea : upd H1 a (.lst [.str "simple", .str "*", .str "*", .str "close", .str "close", .str "turn", .str "*", .str "simple"]) = upd H1 a (.lst ((["simple", "*", "*", "close", "close", "turn", "*", "simple"] : List Str).map V.str)) := rfl
        rw [ea]
        have I1 := I.sm sa
        generalize upd H1 a (.lst ((["simple", "*", "*", "close", "close", "turn", "*", "simple"] : List Str).map V.str)) = H2 at *
        refine ⟨_, rfl, _, rfl, ?_⟩
        cases plain with
        | true =>
          refine iteT ?_
          refine ⟨wide (show 0 ≤ 1000 by decide), fun b hb => ⟨a, b, _, _, rfl, rfl, same_new hb _ _ ga, upd_same, wide (show 8 ≤ 1000 by decide), fun q1 hq1 => ?_⟩⟩
          have I2 := I1.sm ((same_new (o := .lst []) hb).trans (same_new (o := .lst ((["simple", "*", "*", "close", "close", "turn", "*", "simple"] : List Str).map V.str)) hq1))
          exact ⟨q1, ["simple", "*", "*", "close", "close", "turn", "*", "simple"], _, _, _, rfl, I2, upd_same, by decide, by decide, by decide, (I1.sm (same_new (o := .lst []) hb)).dr.2.ne hq1⟩
        | false =>
          refine iteF ?_
          refine ⟨wide (show 2 ≤ 1000 by decide), fun b hb => ⟨a, b, _, _, rfl, rfl, same_new hb _ _ ga, upd_same, wide (show 10 ≤ 1000 by decide), fun q1 hq1 => ?_⟩⟩
          have I2 := I1.sm ((same_new (o := .lst [.str "add", .str "add"]) hb).trans (same_new (o := .lst ((["simple", "*", "*", "close", "close", "turn", "*", "simple", "add", "add"] : List Str).map V.str)) hq1))
          exact ⟨q1, ["simple", "*", "*", "close", "close", "turn", "*", "simple", "add", "add"], _, _, _, rfl, I2, upd_same, by decide, by decide, by decide, (I1.sm (same_new (o := .lst [.str "add", .str "add"]) hb)).dr.2.ne hq1⟩
      rintro σ H2 ⟨ml, ms, u10, u11, u12, rfl, I, gm, hms, m1', m10, nml⟩
      refine ⟨_, rfl, _, rfl, p, ml, _, c - 1, rfl, I.dr.2.mono (by omega), SqL.of gm, nml, ?_, ?_, fun j x H3 hx d3 => ?_⟩
      · rw [List.length_map]
        omega
      · rw [List.length_map]
        omega
      obtain ⟨form, hform, rfl⟩ := str_at hx
      have hform := hms _ (List.mem_of_getElem? hform)
      have I3 := I.mv N d3
      refine ⟨_, _, rfl, ?_⟩
      refine ⟨fun σ H2 => ∃ (v11 : V), σ = [some (.ref p), some (.ref bd), some (.int (w : Int)), some (.int (m : Int)), some (.bl plain), some (.ref lp), some (.ref kd), some (.ref sd), some (.int (0 + (i : Int))), some (.ref ml), some (.str form), some v11, u12] ∧ I9 K p lp kd sd H (c - 41) lns xs kvs skvs H2 ∧
        (v11 = .non ∨ ∃ (a : Addr) (f : Frm), v11 = .ref a ∧ FrmOk (knOf [] lns) f ∧ Td K H2 (.ref a) f.data), ?_, ?_⟩
      · refine ⟨_, rfl, wide (show 0 ≤ 1000 by decide), fun e0 he0 => ?_⟩
        have I4 := I3.sm (same_new (o := .lst []) he0)
        refine ⟨.list (lns.map Ln.data), .list [], .lst (SqL.of I4.gl) I4.td.dp, .lst (SqL.of upd_same) .nil, (lns_shaped L.nice).1, shaped_nil, _, rfl, ?_⟩
        rw [lns_eqnil]
        generalize upd H3 e0 (.lst []) = H4 at *
        by_cases el : lns = []
        · rw [decide_eq_true el]
          refine iteF ?_
          refine iteF ?_
          exact ⟨.non, rfl, I4.mv N (Dr.start I4.dr.2 (by omega)), .inl rfl⟩
        rw [decide_eq_false el]
        refine iteT ?_
        refine ⟨_, rfl, rfl, _, rfl, ?_⟩
        by_cases ef : form = "simple"
        · rw [decide_eq_true (congrArg V.str ef)]
          refine iteF ?_
          exact ⟨.non, rfl, I4.mv N (Dr.start I4.dr.2 (by omega)), .inl rfl⟩
        rw [decide_eq_false fun z => ef (V.str.inj z)]
        refine iteT ?_
        have hf' : form ∈ tryForms := by
          unfold allForms at hform
          unfold tryForms
          simp only [List.mem_cons, List.mem_nil_iff, or_false] at hform ⊢
          rcases hform with h | h | h | h | h
          · exact absurd h ef
          · exact .inl h
          · exact .inr (.inr (.inl h))
          · exact .inr (.inr (.inr h))
          · exact .inr (.inl h)
        refine ⟨_, rfl, _, rfl, bd, .int 0, rfl, .inl ⟨bkvs, .inr "by", .inl (I4.dr.st nB gB), rfl, vB.symm⟩, _, rfl, _, rfl, _, rfl, p, kd, knOf [] lns, kvs, w, c - 41, form, rfl, hf', I4.gk, I4.kn, KnOk.of KnOk.nil L.ok, ?_, ?_, I4.dr.2.mono (by omega), fun H5 d5 => ?_, fun a f H5 d5 _ hf ht => ?_⟩
        · rw [knOf_len]
          have := List.length_pos_iff.mpr el
          omega
        · rw [knOf_len, L.len]
          show 0 + i ≤ 100
          omega
        · exact ⟨.non, rfl, I4.mv N d5, .inl rfl⟩
        · exact ⟨.ref a, rfl, I4.mv N d5, .inr ⟨a, f, rfl, hf, ht⟩⟩
      rintro σ H5 ⟨v11, rfl, I5, hv⟩
      refine ⟨fun σ H2 => ∃ (a : Addr) (f : Frm), σ = [some (.ref p), some (.ref bd), some (.int (w : Int)), some (.int (m : Int)), some (.bl plain), some (.ref lp), some (.ref kd), some (.ref sd), some (.int (0 + (i : Int))), some (.ref ml), some (.str form), some (.ref a), u12] ∧ I9 K p lp kd sd H (c - 61) lns xs kvs skvs H2 ∧
        FrmOk (knOf [] lns) f ∧ Td K H2 (.ref a) f.data, ?_, ?_⟩
      · refine ⟨_, rfl, rfl, _, rfl, ?_⟩
        rcases hv with rfl | ⟨a, f, rfl, hf, ht⟩
        · rw [decide_eq_true rfl]
          refine iteT ?_
          refine iteT ?_
          refine ⟨_, rfl, _, rfl, bd, .ref kt, rfl, .inl ⟨bkvs, .inr "kinds", .inl (I5.dr.st nB gB), rfl, vK.symm⟩, _, rfl, p, kt, w, c - 61, ks, rfl, hw, SqT.tk hK (I5.dr.tk hP), k1, k3, I5.dr.2.mono (by omega), fun a f H6 d6 _ hf ht => ?_⟩
          exact ⟨a, f, rfl, I5.mv N d6, frmS_ok hks hf, ht⟩
        · rw [decide_eq_false fun z => by cases z]
          refine iteF ?_
          obtain ⟨_, ys, e, hT, hA⟩ := ht.tupI
          cases e
          obtain ⟨x, r, rfl, e1, hA⟩ := hA.consI
          obtain ⟨y, r, rfl, e2, hA⟩ := hA.consI
          cases hA.nilI
          cases e1.strI
          obtain ⟨pt, ps, rfl, _, _⟩ := e2.tupI
          refine ⟨_, rfl, _, rfl, a, _, 0, .str f.word, rfl, rfl, hT, rfl, _, rfl, a, _, 1, .ref pt, rfl, rfl, hT, rfl, sd, pt, knOf [] lns, skvs, f, rfl, I5.gs, I5.sz, hf, e2, fun n H6 s6 => ?_⟩
          refine ⟨_, _, rfl, rfl, _, rfl, ?_⟩
          have I5 := I5.sm s6
          refine ite2 (fun _ => ?_) (fun _ => ?_)
          · refine ⟨_, rfl, _, rfl, bd, .ref kt, rfl, .inl ⟨bkvs, .inr "kinds", .inl (I5.dr.st nB gB), rfl, vK.symm⟩, _, rfl, p, kt, w, c - 61, ks, rfl, hw, SqT.tk hK (I5.dr.tk hP), k1, k3, I5.dr.2.mono (by omega), fun a f H6 d6 _ hf ht => ?_⟩
            exact ⟨a, f, rfl, I5.mv N d6, frmS_ok hks hf, ht⟩
          · exact ⟨a, f, rfl, I5.mv N (Dr.start I5.dr.2 (by omega)), hf, ht.mv (Same.tk s6)⟩
      rintro σ H6 ⟨a, f, rfl, I6, hf, ht⟩
      refine ⟨_, rfl, _, rfl, p, i, c - 63, (by rw [Int.zero_add]; rfl), by omega, I6.dr.2.mono (by omega), fun z H7 d7 hz => ?_⟩
      have I7 := I6.mv N d7
      have ht7 := ht.mv (d7.tk I6.dr.2)
      obtain ⟨_, ys, e, hT, hA⟩ := ht7.tupI
      cases e
      obtain ⟨x, r, rfl, e1, hA⟩ := hA.consI
      obtain ⟨y, r, rfl, e2, hA⟩ := hA.consI
      cases hA.nilI
      cases e1.strI
      obtain ⟨pt, ps, rfl, _, _⟩ := e2.tupI
      refine ⟨_, rfl, .inl ⟨rfl, _, SqL.of I7.gl⟩, ?_⟩
      refine ⟨_, rfl, _, rfl, a, _, 0, .str f.word, rfl, rfl, hT, rfl, _, rfl, a, _, 1, .ref pt, rfl, rfl, hT, rfl, wide (show 3 ≤ 1000 by decide), fun tt htt => ?_⟩
      have st := same_new (o := .tup [.str z, .str f.word, .ref pt]) htt
      have I8 := I7.sm st
      have g8 : (upd H7 tt (.tup [.str z, .str f.word, .ref pt])) tt = some (.tup [.str z, .str f.word, .ref pt]) := upd_same
      have e28 := e2.mv (Same.tk st)
      have hT8 := SqT.tk hT (Same.tk st)
      generalize upd H7 tt (.tup [.str z, .str f.word, .ref pt]) = H8 at *
      have xl : xs.length ≤ 20 := by
        have := I8.td.lnLen
        rw [L.len] at this
        omega
      refine ⟨lp, xs, .ref tt, rfl, rfl, I8.gl, Nat.lt_of_le_of_lt xl (by decide), ?_⟩
      have tk9 := tk_lst (o := .lst (xs ++ [.ref tt])) I8.gl
      have d9 := I8.dr.mut (o := .lst (xs ++ [.ref tt])) N.fl N.nl
      have l9 : (upd H8 lp (.lst (xs ++ [.ref tt]))) lp = some (.lst (xs ++ [.ref tt])) := upd_same
      have k9 : (upd H8 lp (.lst (xs ++ [.ref tt]))) kd = some (.dK kvs) := by
        rw [upd_ne (fun e => by
          have := I8.gk
          rw [e, I8.gl] at this
          cases this)]
        exact I8.gk
      have s9 : (upd H8 lp (.lst (xs ++ [.ref tt]))) sd = some (.dK skvs) := by
        rw [upd_ne (fun e => by
          have := I8.gs
          rw [e, I8.gl] at this
          cases this)]
        exact I8.gs
      generalize upd H8 lp (.lst (xs ++ [.ref tt])) = H9 at *
      have e29 := e28.mv tk9
      have hT9 := SqT.tk hT8 tk9
      refine ⟨_, rfl, _, rfl, a, _, 0, .str f.word, rfl, rfl, hT9, rfl, _, rfl, a, _, 1, .ref pt, rfl, rfl, hT9, rfl, sd, pt, knOf [] lns, skvs, f, rfl, s9, I8.sz, hf, e29, fun n H10 s10 => ?_⟩
      refine ⟨_, rfl, _, rfl, sd, _, rfl, .inl ⟨skvs, .inr z, s10 _ _ s9, rfl, Nat.lt_of_le_of_lt (Nat.le_trans hsk (show i ≤ 20 by omega)) (by decide), rfl⟩, ?_⟩
      have tk11 := tk_dK (o := .dK (putK skvs (.inr z) (.int n))) (s10 _ _ s9)
      have d11 := (d9.sm9 s10).mut (o := .dK (putK skvs (.inr z) (.int n))) N.fs N.ns
      have l11 : (upd H10 sd (.dK (putK skvs (.inr z) (.int n)))) lp = some (.lst (xs ++ [.ref tt])) := by
        rw [upd_ne (fun e => by
          have := s10 _ _ s9
          rw [← e, s10 _ _ l9] at this
          cases this)]
        exact s10 _ _ l9
      have k11 : (upd H10 sd (.dK (putK skvs (.inr z) (.int n)))) kd = some (.dK kvs) := by
        rw [upd_ne N.ks]
        exact s10 _ _ k9
      have s11 : (upd H10 sd (.dK (putK skvs (.inr z) (.int n)))) sd = some (.dK (putK skvs (.inr z) (.int n))) := upd_same
      generalize upd H10 sd (.dK (putK skvs (.inr z) (.int n))) = H11 at *
      have tk811 := (tk9.trans (Same.tk s10)).trans tk11
      have e211 := e28.mv tk811
      have hT11 := SqT.tk hT8 tk811
      refine ⟨_, rfl, _, rfl, a, _, 0, .str f.word, rfl, rfl, hT11, rfl, _, rfl, a, _, 1, .ref pt, rfl, rfl, hT11, rfl, kd, pt, knOf [] lns, kvs, f, rfl, k11, I8.kn.mv tk811, KnOk.of KnOk.nil L.ok, hf, e211, fun v H12 s12 gv => ?_⟩
      have kl : kvs.length ≤ 20 := by
        rw [I8.kn.len, knOf_len, L.len]
        show 0 + i ≤ 20
        omega
      refine ⟨_, rfl, _, rfl, kd, _, rfl, .inl ⟨kvs, .inr z, s12 _ _ k11, rfl, Nat.lt_of_le_of_lt kl (by decide), rfl⟩, ?_⟩
      have tk13 := tk_dK (o := .dK (putK kvs (.inr z) v)) (s12 _ _ k11)
      have d13 := (d11.sm9 s12).mut (o := .dK (putK kvs (.inr z) v)) N.fk N.nk
      have tk813 := (tk811.trans (Same.tk s12)).trans tk13
      have L' := L.snoc hz hf
      have nz : valV kvs (.inr z) = none := I8.kn.no (glk_none.mpr L'.ok.last)
      refine ⟨_, _, _, _, _, lns ++ [⟨z, f⟩], xs ++ [.ref tt], _, putK skvs (.inr z) (.int n), rfl, hi, L', ⟨d13.mono (by omega), ?_, upd_same, ?_, ?_, ?_, ?_⟩, ?_⟩
      · rw [upd_ne (fun e => by
          have := s12 _ _ k11
          rw [← e, s12 _ _ l11] at this
          cases this)]
        exact s12 _ _ l11
      · rw [upd_ne (fun e => N.ks e.symm)]
        exact s12 _ _ s11
      · rw [List.map_append]
        exact TdAll.snoc (.tup (SqT.tk (SqT.of g8) tk813) (.cons (.str _) (.cons (.str _) (.cons (e28.mv tk813) .nil)))) (I8.td.mv tk813)
      · rw [putK_new _ nz] at tk13 ⊢
        rw [knOf_snoc]
        exact KnD.snoc (gv.mv tk13) ((I8.kn.mv tk811).mv ((Same.tk s12).trans tk13))
      · rw [knOf_snoc]
        exact I8.sz.snoc
      · unfold putK
        split
        · rw [List.length_map]
          omega
        · rw [List.length_append]
          exact Nat.add_le_add_right hsk 1
    · rintro σ H1 ⟨u8, u9, u10, u11, u12, lns, xs, kvs, skvs, rfl, _, L, I, _⟩
      exact ⟨_, rfl, q lp xs lns H1 (I.dr.mono (by omega)) hlp N.nl I.gl I.td L⟩
end
end OG
set_option Elab.async false
set_option linter.all false
set_option maxRecDepth 100000
set_option maxHeartbeats 4000000
namespace OGX
open PySem PySem.Spec PyProof.Rows L2
/-! set(x) of ints, x a tuple or a list; then sorted -/
abbrev eset (w : World) : Obj := { cls := .type "set", dict := none, data := .set #[] 0 (.fresh 0 0 (!w.params.followText "set-order")) }
section
variable {P : Program} {w : World} {A : Around} {E : Value → Shared → Prop} {s : Shared}
set_option maxHeartbeats 6400000 in
theorem set_of_list {la : Addr} {xs : Array Value} (ks : List Int) {Q : Value → Shared → Prop} (quiet : A.handled = none) (isL : s.heap.IsList la xs) (nums : IntsAre xs.toList ks) (few : ks.length + 1 < scanBound)
    (go : ∀ (hp : Heap) (tk c : Nat), SetR w hp s.heap.objs.size (fun j => decide (j ∈ ks)) c → c ≤ ks.length → (∀ b o, s.heap.get? b = some o → hp.get? b = some o) → Q (.ref s.heap.objs.size) { s with heap := hp, toks := tk }) :
    wpAny (model P w) A (call (.type "set") [.ref la]) Q E s := by
  have many : xs.size = ks.length := by
    rw [← IntsAre.length nums, Array.length_toList]
  obtain ⟨c, tl, hm0⟩ := F.called_set.mro
  have hm1 := F.called_set.made
  have hm2 := F.called_set.sub
  refine wpAny_call (codeAny_of_tree ?_); show wpAny _ _ (callAny (.type "set") _) _ _ _
  have qb := Code.quiet_builtin ⟨[.type "set", .ref la], []⟩ (by decide +kernel) (id := "type.__call__")
  refine wpAny_pure ⟨qb, codeAny_builtin F.entry_type_call ?_⟩
  rw [Around.under_plain (weight_type_call_type "set" [.ref la] []) rfl]
  have hq1 := F.called_set.notType
  have hq2 := F.called_set.canCreate
  have hq3 := F.typeCall_set_1 (.ref la)
  repeat any_goals first | assumption | wp_step
  refine codeAny_mono (code_set_led1 (.ref la) (E := E) (Q₁ := fun obj s₁ => obj = .ref s.heap.objs.size ∧ s₁ = { s with heap := s.heap.push (eset w) }) ⟨rfl, rfl⟩) fun r s₁ made => ?_
  cases r with
  | error e => exact made
  | ok fl =>
    cases fl with
    | ret obj =>
      obtain ⟨rfl, rfl⟩ := made
      have gS : (s.heap.push (eset w)).get? s.heap.objs.size = some (eset w) := Heap.get?_push_size _ rfl
      have tyS : Shared.TypeIs { s with heap := s.heap.push (eset w) } (.ref s.heap.objs.size) "set" := ⟨_, gS, rfl⟩
      have look := F.called_set.init.lookup
      have bind := F.called_set.init.bind (.ref s.heap.objs.size)
      repeat any_goals first | assumption | wp_step
      refine codeAny_mono (codeAny_call_builtin (R := wants (fun r s₂ => r = .none ∧ ∃ hp tk c, s₂ = { s with heap := hp, toks := tk } ∧ SetR w hp s.heap.objs.size (fun j => decide (j ∈ ks)) c ∧ c ≤ ks.length ∧
          (∀ b o, s.heap.get? b = some o → hp.get? b = some o)) E) F.called_set.init.plain F.entry_set_init (check_set_init_1 tyS ?_)) fun r₂ s₂ told => ?_
      · obtain ⟨oo, hoo, hcl, nl, hdl⟩ := isL
        obtain ⟨c0, odict, d0, oslots⟩ := oo
        simp only at hcl hdl
        subst hcl; subst hdl
        have at1 : (s.heap.push (eset w)).get? la = some { cls := .type "list", dict := odict, data := .seq xs nl, slots := oslots } := Heap.get?_push_of_some _ hoo
        have no1 := F.sub_list_set
        have no2 := F.sub_list_frozenset
        have no3 : (Value.type "list" == Value.type "dict") = false := by decide
        have is1 : (s.heap.push (eset w)).IsList la xs := ⟨_, at1, rfl, nl, rfl⟩
        unfold Builtin.«set.__init__» Builtin.Frozenset.updateFrom noKeywords
        generalize hIT : pyIter = IT
        wp_walk
        subst hIT
        refine wpAny_pyIter_list is1 ?_
        refine wpAny_bind (wpAny_runValue (?_))
        have below : la < s.heap.objs.size := Heap.lt_size hoo
        have quiet3 : A.in1.in1.in1.handled = none := by simp [quiet]
        have sz1 : (s.heap.push (eset w)).objs.size = s.heap.objs.size + 1 := Heap.size_push ..
        have apart : la ≠ (s.heap.push (eset w)).objs.size := by
          rw [sz1]
          exact Nat.ne_of_lt (Nat.lt_succ_of_lt below)
        have out1 : s.heap.objs.size ∉ [(s.heap.push (eset w)).objs.size, la] := by
          rw [sz1, List.mem_cons, List.mem_singleton, not_or]
          exact ⟨Nat.ne_of_lt (Nat.lt_succ_self _), Nat.ne_of_gt below⟩
        have each : ∀ (i : Nat) (v : Value), xs[i]? = some v → ∃ k t, ks[i]? = some k ∧ v = .int k t := fun i v hv => by
          have hi : i < ks.length := many ▸ (Array.getElem?_eq_some_iff.mp hv).1
          obtain ⟨t, e⟩ := PyProof.Rows.IntsAre.int_at nums i v (by rw [Array.getElem?_toList]; exact hv)
          exact ⟨ks[i], t, List.getElem?_eq_getElem hi, by rw [e, List.getD_eq_getElem?_getD, List.getElem?_eq_getElem hi]; rfl⟩
        refine set_update_ints ((Walks.list quiet3 _ la apart xs).toS) s.heap.objs.size out1 ks many few each (xs.size - 0) 0 _ (by omega) (Nat.zero_le _) ⟨⟨_, Heap.get?_push_size _ rfl, rfl, rfl⟩, (is1.push _)⟩ ?first ?last
        case first => exact ⟨0, Nat.le_refl 0, setR_new_at (Heap.get?_push_of_some _ gS)⟩
        case last =>
          intro s' c' mv few' R'
          obtain ⟨hp, g2, d', tk', os'⟩ := s'
          have eg : g2 = s.gens := mv.gens
          have ed : d' = s.drawn := mv.drawn
          have eo : os' = s.os := mv.os
          subst eg; subst ed; subst eo
          show wpAny _ _ _ _ _ _
          refine wpAny_pure ?_
          show wpAny _ _ (ret .none) _ _ _
          rw [many] at few'
          refine wpAny_pure ⟨rfl, hp, tk', c', rfl, R', few', fun b o e => ?_⟩
          have lt := Heap.lt_size e
          refine mv.heap b o ?_ (Heap.get?_push_of_some _ (Heap.get?_push_of_some _ e))
          rw [sz1, List.mem_cons, List.mem_singleton, not_or]
          exact ⟨Nat.ne_of_lt lt, Nat.ne_of_lt (Nat.lt_succ_of_lt lt)⟩
      · cases r₂ with
        | error e => exact told
        | ok fl₂ =>
          cases fl₂ with
          | ret r =>
            obtain ⟨rfl, hp, tk, c', rfl, R', few', keep⟩ := told
            repeat any_goals first | assumption | wp_step
            exact go _ _ _ R' few' keep
          | _ => exact told.elim
    | _ => exact made.elim
end
/-- set(x), x a tuple or a list of ints -/
def rSetI (K : PySem.W.Frag) (w : World) : List V → Hp → VK → Prop := fun vs H Q => ∃ (p : Addr) (ns : List Int), vs = [.ref p] ∧ (SqL K H p (ns.map V.int) ∨ SqT K H p (ns.map V.int)) ∧ ns.length ≤ 1000 ∧
  ∀ (a : Addr) (c : Nat), c ≤ ns.length → H a = none → Q (.ref a) (upd H a (SetO w a (fun j => decide (j ∈ ns)) c))
theorem cr_setI {X : Cx} (hc : X.calm = true) : CallR X (.type "set") (rSetI X.K X.w) := by
  intro pins s σ H vs us Q I r h
  obtain ⟨p, ns, rfl, hq, hl, q⟩ := h
  rw [Vals.ref1 r]
  have hb : ns.length + 1 < scanBound := by
    unfold scanBound
    omega
  have fin : ∀ (hp : Heap) (tk c : Nat), SetR X.w hp s.heap.objs.size (fun j => decide (j ∈ ns)) c → c ≤ ns.length → (∀ b o, s.heap.get? b = some o → hp.get? b = some o) → EP X pins σ Q (.ref s.heap.objs.size) { s with heap := hp, toks := tk } := fun hp tk c R hcn k => by
    obtain ⟨o, es, ep, t, ho, rest⟩ := id R
    exact ⟨.ref s.heap.objs.size, upd H s.heap.objs.size (SetO X.w s.heap.objs.size (fun j => decide (j ∈ ns)) c), I.laid (a := s.heap.objs.size) (t' := tk) k (Nat.le_refl _) (setO_new R), rfl, q _ c hcn (I.hok.fresh (Nat.le_refl _))⟩
  rcases hq with hq | hq
  · obtain ⟨its, rv, lv, _⟩ := I.list hq
    exact set_of_list ns (I.ok.hd hc) lv.isList (ints_of_vals rv) hb fin
  · obtain ⟨its, rv, tv, _⟩ := I.tuple hq
    exact call_set_tupI ns (I.ok.hd hc) tv (ints_of_vals rv) hb fin
end OGX
set_option Elab.async false
set_option linter.all false
set_option maxRecDepth 100000
set_option maxHeartbeats 4000000
namespace OGX
open PySem PySem.Spec PyProof.Rows L2
/-! xs[c::2], xs a list -/
def stepA {α : Type} (l : List α) (c : Nat) : List α := (List.range ((l.length - c + 1) / 2)).filterMap fun k => l[c + 2 * k]?
theorem two_bounds (c n : Nat) (h : c ≤ n) : sliceBounds (some (c : Int)) none (some 2) n = ((c : Int), (n : Int), 2) := by
  unfold sliceBounds
  simp only [Option.getD_some]
  rw [if_pos (show (2 : Int) > 0 by decide), if_neg (show ¬ (c : Int) < 0 by omega)]
  rw [show max (0 : Int) (min (c : Int) (n : Int)) = c by omega]
  rfl
theorem two_range (c n : Nat) (h : c ≤ n) : sliceRange (c : Int) (n : Int) 2 = (List.range ((n - c + 1) / 2)).map fun k => c + 2 * k := by
  unfold sliceRange
  have e : (if (2 : Int) > 0 then if (c : Int) < n then ((n : Int) - c + 2 - 1) / 2 else 0 else if (c : Int) > n then ((c : Int) - n - 2 - 1) / (-2) else 0).toNat = (n - c + 1) / 2 := by
    rw [if_pos (by decide)]
    by_cases q : (c : Int) < n
    · rw [if_pos q]
      omega
    · rw [if_neg q]
      show 0 = _
      omega
  simp only [e]
  refine List.map_congr_left fun k _ => ?_
  omega
theorem two_pick (its : Array Value) (c : Nat) (h : c ≤ its.size) : slicePick its (some (c : Int)) none (some 2) = (stepA its.toList c).toArray := by
  unfold slicePick
  rw [two_bounds c its.size h]
  show ((sliceRange (c : Int) (its.size : Int) 2).filterMap (its[·]?)).toArray = _
  rw [two_range c its.size h, List.filterMap_map]
  unfold stepA
  rw [Array.length_toList]
  rw [show ((fun x => its[x]?) ∘ fun k => c + 2 * k) = fun k => its.toList[c + 2 * k]? from funext fun k => by
    show its[c + 2 * k]? = _
    rw [Array.getElem?_toList]]
theorem vals_some {xs : List V} {its : List Value} (r : Vals xs its) : ∀ i : Nat, (xs[i]? = none ∧ its[i]? = none) ∨ ∃ x v, xs[i]? = some x ∧ its[i]? = some v ∧ RelV x v := by
  induction r with
  | nil => exact fun i => .inl ⟨by simp, by simp⟩
  | cons h _ ih =>
    intro i
    cases i with
    | zero => exact .inr ⟨_, _, rfl, rfl, h⟩
    | succ i => exact ih i
theorem vals_pick {xs : List V} {its : List Value} (r : Vals xs its) (f : Nat → Nat) : ∀ ks : List Nat, Vals (ks.filterMap fun k => xs[f k]?) (ks.filterMap fun k => its[f k]?)
  | [] => .nil
  | k :: ks => by
    rcases vals_some r (f k) with ⟨h1, h2⟩ | ⟨x, v, h1, h2, h3⟩
    · rw [List.filterMap_cons, List.filterMap_cons, h1, h2]
      exact vals_pick r f ks
    · rw [List.filterMap_cons, List.filterMap_cons, h1, h2]
      exact .cons h3 (vals_pick r f ks)
theorem vals_step {xs : List V} {its : List Value} (r : Vals xs its) (c : Nat) : Vals (stepA xs c) (stepA its c) := by
  unfold stepA
  rw [r.length]
  exact vals_pick r _ _
theorem stepA_len {α : Type} (l : List α) (c : Nat) : (stepA l c).length ≤ l.length + 1 := by
  unfold stepA
  have := List.length_filterMap_le (fun k => l[c + 2 * k]?) (List.range ((l.length - c + 1) / 2))
  rw [List.length_range] at this
  omega
def tStepL (K : PySem.W.Frag) (c : Nat) (te : TE) : TE := fun σ H Q => te σ H fun x H1 => ∃ a xs, x = .ref a ∧ SqL K H1 a xs ∧ c ≤ xs.length ∧ xs.length ≤ 10000 ∧ ∀ p, H1 p = none → Q (.ref p) (upd H1 p (.lst (stepA xs c)))
theorem pe_stepL {X : Cx} {e : Expr} {te : TE} {c k k2 : Nat} {p1 p2 p3 pos : Pos} (he : PE X e te) : PE X (.Subscript e (.Slice (some (.Constant (.int (c : Int)) k p1)) none (some (.Constant (.int 2) k2 p2)) p3) pos) (tStepL X.K c te) := by
  refine ⟨fun pins s σ H Q I h => ?_⟩
  refine Subscript_ (thn (he.run pins s σ H _ I h) fun v s1 told => ?_)
  obtain ⟨_, H1, I1, r1, a, xs, rfl, hx, hc, hn, q⟩ := told
  cases r1
  have lo : PO X (some (.Constant (.int (c : Int)) k p1)) (tPart (tC (.int (c : Int)))) := po_some pe_int
  have by2 : PO X (some (.Constant (.int 2) k2 p2)) (tPart (tC (.int 2))) := po_some pe_int
  refine wpAny_Slice (thn (lo.run pins s1 σ H1 (fun o H2 => o = some (c : Int) ∧ H2 = H1) I1 ⟨c, rfl, rfl, rfl⟩) fun vl s2 h2 => ?_)
  obtain ⟨_, H2, I2, pl, rfl, e2⟩ := h2
  have e2 := e2.symm
  subst e2
  refine thn (po_none.run pins s2 σ _ (fun o H3 => o = none ∧ H3 = H1) I2 ⟨rfl, rfl⟩) fun vu s3 h3 => ?_
  obtain ⟨_, H3, I3, pu, rfl, e3⟩ := h3
  have e3 := e3.symm
  subst e3
  refine thn (by2.run pins s3 σ _ (fun o H4 => o = some 2 ∧ H4 = H1) I3 ⟨2, rfl, rfl, rfl⟩) fun vs s4 h4 => ?_
  obtain ⟨_, H4, I4, ps, rfl, e4⟩ := h4
  have e4 := e4.symm
  subst e4
  have I5 : Inv X pins σ H1 { s4 with heap := s4.heap.push { cls := .type "slice", data := .fields #[vl, vu, vs] } } := I4.kept (t' := s4.toks) fun b ob q => Heap.get?_push_of_some _ q
  obtain ⟨its, r, ht, hz⟩ := I5.list hx
  have hl := r.length
  change wpAny (model X.prog X.w) X.A (subscriptTail e (.Slice (some (.Constant (.int (c : Int)) k p1)) none (some (.Constant (.int 2) k2 p2)) p3) (.ref a) (.ref s4.heap.objs.size)) (EP X pins σ Q) X.xe { s4 with heap := s4.heap.push { cls := .type "slice", data := .fields #[vl, vu, vs] } }
  refine tail_any (ops := [.ref a, .ref s4.heap.objs.size]) ht.isList.typeIs PySem.slot_list_getitem.lookup ?_ (by with_unfolding_all rfl)
  refine wpAny_getItem_list_slice ht.isList (Heap.IsSliceOf.new _ vl vu vs) pl pu ps (by decide) ?_ (by rw [List.size_toArray]; omega)
  rw [two_pick its.toArray c (by rw [List.size_toArray]; omega)]
  refine ⟨.ref _, _, I5.laid (t' := s4.toks) (o := .lst (stepA xs c)) (fun b ob q => Heap.get?_push_of_some _ q) (Nat.le_refl _) ?_, rfl, q _ (I5.hok.fresh (Nat.le_refl _))⟩
  exact ⟨Nat.le_trans (stepA_len xs c) (Nat.le_trans (show xs.length + 1 ≤ 10001 by omega) (by decide)), stepA its c, 0, vals_step r c, Heap.get?_push_size _ rfl⟩
end OGX
set_option Elab.async false
set_option linter.all false
set_option maxRecDepth 100000
set_option maxHeartbeats 8000000
namespace OG
open PySem PySem.Spec PyProof.Rows L2
theorem strip_len (z y : Str) : (Txt.rstripChars z y).length ≤ z.length := by
  unfold Txt.rstripChars Txt.stripBy
  split
  · exact Nat.le_refl _
  · unfold stripped
    show (Array.extract z.cps _ _).size ≤ z.cps.size
    rw [Array.size_extract]
    omega
section
variable {P : Program} {w : World} {K : PySem.W.Frag} {mg : Str → Option Value} {base : Heap}
def spLName : Sp := fun vs H Q _ => ∃ z : Str, vs = [.str z] ∧ z.length ≤ 600 ∧ ∀ H', Same H H' → Q (.bl (lnmB z)) H'
theorem ok_is_line_name (T : Txt K mg) : FnOk P w K mg base CX0 3 T.f_is_line_name T.fd_is_line_name ["word"] (spLName) := by
  refine T.F_is_line_name.ok sc_is_line_name (fun vs H Q E h => ?_) (fun cdv A outer s H vs Q E hr h => ?_)
  · obtain ⟨z, rfl, _⟩ := h
    rfl
  · obtain ⟨z, rfl, hz, q⟩ := h
    refine ⟨_, (pss_cons (ps_set (i := 1) sc_is_line_name.nd rfl (Or.inl rfl) (pe_bm PySem.F.plainAttrs_str PySem.F.slot_str_rstrip PySem.F.type_str_rstrip mt_rstripChars (pv 0) (pa_cons (C8.pe_gc (by rfl) T.m_FIGURES) pa_nil)))
  (pss_one (ps_ret (pe_and (pe_call (ok_is_letters T) (hr.mono (by decide)) (by rfl) T.g_is_letters T.F_is_letters.kp T.b_is_letters .nil pass0 (pa_cons (pv 1) (pa_cons pe_int pa_nil))) (pe_and (pe_cmpR op_le (pe_op op_sub (pe_callB call_len_str (by rfl) T.n_len PySem.boot_len (pa_cons (pv 0) pa_nil)) (pe_callB call_len_str (by rfl) T.n_len PySem.boot_len (pa_cons (pv 1) pa_nil))) pe_int (nomark _)) (pe_one (pe_cmpR op_notIn_seq (pv 0) (C8.pe_gc (by rfl) T.m_NO_NAMES) rfl))))))), ?_⟩
    have wide : ∀ {n : Nat}, n ≤ 1000 → n ≤ sizeLine := fun h => Nat.le_trans h (by decide)
    obtain ⟨y, ey⟩ : ∃ y, y = Txt.rstripChars z "0123456789" := ⟨_, rfl⟩
    have yl : y.length ≤ z.length := by
      rw [ey]
      exact strip_len z _
    refine ⟨_, rfl, rfl, z, _, rfl, rfl, wide (by omega), ?_⟩
    rw [← ey]
    refine ⟨_, rfl, y, 6, rfl, by omega, fun H1 s1 => ?_⟩
    refine ⟨_, rfl, ?_⟩
    unfold lnmB at q
    rw [← ey] at q
    cases e1 : isNmB 6 y with
    | false =>
      refine iteF ?_
      have := q H1 s1
      rw [e1, Bool.false_and] at this
      exact this
    | true =>
      refine iteT ?_
      refine ⟨_, rfl, z, rfl, wide (by omega), _, rfl, y, rfl, wide (by omega), _, _, rfl, rfl, _, _, rfl, rfl, _, rfl, ?_⟩
      have q := q H1 s1
      rw [e1, Bool.true_and] at q
      rw [show decide ((z.length : Int) - (y.length : Int) ≤ 9) = decide (z.length - y.length ≤ 9) from decide_eq_decide.mpr (by omega)]
      cases e2 : decide (z.length - y.length ≤ 9) with
      | false =>
        refine iteF ?_
        rw [e2, Bool.false_and] at q
        exact q
      | true =>
        refine iteT ?_
        rw [e2, Bool.true_and] at q
        refine ⟨_, rfl, _, _, rfl, .inr (T.sq_NO_NAMES H1), rfl, flat_strs _, ?_⟩
        rw [inV_str]
        exact q
def gateW : List Str := ["1", "2", "3", "4"]
def spGateOf : Sp := fun vs H Q _ => ∃ (g : Int), vs = [.str (istr g)] ∧ (1 ≤ g ∧ g ≤ 4) ∧ ∀ H', Same H H' → Q (.int g) H'
theorem ok_gate_of (T : Txt K mg) : FnOk P w K mg base CX0 3 T.f_gate_of T.fd_gate_of ["word"] (spGateOf) := by
  refine T.F_gate_of.ok sc_gate_of (fun vs H Q E h => ?_) (fun cdv A outer s H vs Q E hr h => ?_)
  · obtain ⟨z, rfl, _⟩ := h
    rfl
  · obtain ⟨g, rfl, hg, q⟩ := h
    refine ⟨_, (pss_one (ps_ret (pe_ifExp (pt_cmpR op_in_seq (pv 0) (pe_tup (pa_cons pe_str (pa_cons pe_str (pa_cons pe_str (pa_cons pe_str pa_nil))))) rfl) (pe_callTy call_int_str (by rfl) T.n_int (by decide +kernel) (pa_cons (pv 0) pa_nil)) pe_non))), ?_⟩
    have wide : ∀ {n : Nat}, n ≤ 1000 → n ≤ sizeLine := fun h => Nat.le_trans h (by decide)
    refine ⟨_, rfl, wide (show 4 ≤ 1000 by decide), fun t ht => ⟨t, gateW.map V.str, rfl, .inr (SqT.of upd_same), rfl, flat_strs _, _, rfl, ?_⟩⟩
    rw [inV_str]
    have h4 : g = 1 ∨ g = 2 ∨ g = 3 ∨ g = 4 := by omega
    have mem : istr g ∈ gateW := by
      rcases h4 with rfl | rfl | rfl | rfl <;> decide +kernel
    rw [decide_eq_true mem]
    refine iteT ?_
    refine ⟨_, rfl, istr g, g, rfl, ?_, ?_, q _ (same_new ht)⟩
    · rcases h4 with rfl | rfl | rfl | rfl <;> decide +kernel
    · rcases h4 with rfl | rfl | rfl | rfl <;> decide +kernel
def spAsc (K : PySem.W.Frag) : Sp := fun vs H Q _ => ∃ (p : Addr) (ns : List Int), vs = [.ref p] ∧ (SqL K H p (ns.map V.int) ∨ SqT K H p (ns.map V.int)) ∧ ns.length ≤ 20 ∧ (∀ g ∈ ns, 1 ≤ g ∧ g ≤ 4) ∧
  ∀ (v : V) (H' : Hp), Same H H' → Td K H' v (gsD (asc4 fun x => decide (x ∈ ns))) → Q v H'
theorem ok_ascending (T : Txt K mg) : FnOk P w K mg base CX0 3 T.f_ascending T.fd_ascending ["found"] (spAsc K) := by
  refine T.F_ascending.ok sc_ascending (fun vs H Q E h => ?_) (fun cdv A outer s H vs Q E hr h => ?_)
  · obtain ⟨p, ns, rfl, _⟩ := h
    rfl
  · obtain ⟨p, ns, rfl, hq, hl, hr, q⟩ := h
    refine ⟨_, (pss_one (ps_ret (pe_callTy call_tuple_of (by rfl) T.n_tuple (by decide +kernel) (pa_cons (pe_callB (cr_sortedSet rfl) (by rfl) T.n_sorted (by decide +kernel) (pa_cons (pe_callTy (OGX.cr_setI rfl) (by rfl) T.n_set (by decide +kernel) (pa_cons (pv 0) pa_nil)) pa_nil)) pa_nil)))), ?_⟩
    refine ⟨_, rfl, p, ns, rfl, hq, by omega, fun a c hc ha => ?_⟩
    refine ⟨a, _, c, rfl, upd_same, by omega, fun ms L hs hm hlen hL => ?_⟩
    refine ⟨L, _, rfl, .inl ⟨SqL.of upd_same, fun t ht => ?_⟩⟩
    refine q _ _ (((same_new ha).trans (same_new hL)).trans (same_new ht)) ?_
    have e : ms = asc4 fun x => decide (x ∈ ns) := asc_ext hs (asc4_ok _).asc fun x => by
      rw [mem_asc4, hm x]
      exact ⟨fun h => ⟨hr x (of_decide_eq_true h), h⟩, fun h => h.2⟩
    rw [← e]
    exact td_gs (SqT.of upd_same)
end
end OG
set_option Elab.async false
set_option linter.all false
set_option maxRecDepth 100000
set_option maxHeartbeats 8000000
namespace OG
open PySem PySem.Spec PyProof.Rows L2
/-- a factor's text, as it is read -/
structure FacW (f : Fac) : Prop where
  part : Txt.partition (facT f) "/" = (istr f.1, if f.2 = 1 then ("" : Str) else "/", if f.2 = 1 then ("" : Str) else istr f.2)
  top : numQ 1000 (tl (istr f.1)) = true ∧ numV (tl (istr f.1)) = f.1
  bot : numQ 1000 (tl (istr f.2)) = true ∧ numV (tl (istr f.2)) = f.2
theorem facs_read : (allFacs.all fun f => decide (Txt.partition (facT f) "/" = (istr f.1, if f.2 = 1 then ("" : Str) else "/", if f.2 = 1 then ("" : Str) else istr f.2)) && (numQ 1000 (tl (istr f.1)) && decide (numV (tl (istr f.1)) = f.1) && (numQ 1000 (tl (istr f.2)) && decide (numV (tl (istr f.2)) = f.2)))) = true := by decide +kernel
theorem FacOk.read {f : Fac} (h : FacOk f) : FacW f := by
  have := List.all_eq_true.mp facs_read f h.mem
  simp only [Bool.and_eq_true, decide_eq_true_eq] at this
  exact ⟨this.1, this.2.1, this.2.2⟩
section
variable {P : Program} {w : World} {K : PySem.W.Frag} {mg : Str → Option Value} {base : Heap}
def spFacOf : Sp := fun vs H Q _ => ∃ (f : Fac), vs = [.str (facT f)] ∧ FacOk f ∧ ∀ (a : Addr) (H' : Hp), Same H H' → H' a = some (.tup [.int f.1, .int f.2]) → Q (.ref a) H'
theorem ok_factor_of (T : Txt K mg) : FnOk P w K mg base CX0 3 T.f_factor_of T.fd_factor_of ["word"] (spFacOf) := by
  refine T.F_factor_of.ok sc_factor_of (fun vs H Q E h => ?_) (fun cdv A outer s H vs Q E hr h => ?_)
  · obtain ⟨f, rfl, _⟩ := h
    rfl
  · obtain ⟨f, rfl, ok, q⟩ := h
    refine ⟨_, (pss_cons (ps_asg (pe_partition (pv 0) pe_str) (pg_tup (by rfl) (pgs_cons (pg_name (i := 1) sc_factor_of.nd rfl (Or.inl rfl)) (pgs_cons (pg_name (i := 2) sc_factor_of.nd rfl (Or.inl rfl)) (pgs_cons (pg_name (i := 3) sc_factor_of.nd rfl (Or.inl rfl)) pgs_nil)))))
  (pss_cons (ps_set (i := 4) sc_factor_of.nd rfl (Or.inl rfl) (pe_call (ok_integer_of T) (hr.mono (by decide)) (by rfl) T.g_integer_of T.F_integer_of.kp T.b_integer_of .nil pass0 (pa_cons (pv 1) (pa_cons (C8.pe_gc (by rfl) T.m_MOST_FIGURES) pa_nil))))
  (pss_cons (ps_set (i := 5) sc_factor_of.nd rfl (Or.inl rfl) (pe_ifExp (pt_truth (pv 2) (by intro _; rfl)) (pe_call (ok_integer_of T) (hr.mono (by decide)) (by rfl) T.g_integer_of T.F_integer_of.kp T.b_integer_of .nil pass0 (pa_cons (pv 3) (pa_cons (C8.pe_gc (by rfl) T.m_MOST_FIGURES) pa_nil))) pe_int))
  (pss_cons (ps_if (PW.pt (pw_or (pt_cmpR op_isN (pv 4) pe_non (nomark _)) (pw_or (pt_cmpR op_isN (pv 5) pe_non (nomark _)) (pw_or1 (pt_cmpR op_gt (pe_callBfun cr_gcd (by rfl) T.g_gcd (pa_cons (pv 4) (pa_cons (pv 5) pa_nil))) pe_int (nomark _)))))) (pss_one (ps_ret pe_non)) pss_nil)
  (pss_cons (ps_if (PW.pt (pw_and (pt_truth (pv 2) (by intro _; rfl)) (pw_and1 (pt_cmpR op_lt (pv 5) pe_int (nomark _))))) (pss_one (ps_ret pe_non)) pss_nil)
  (pss_one (ps_ret (pe_tup (pa_cons (pv 4) (pa_cons (pv 5) pa_nil)))))))))), ?_⟩
    have wide : ∀ {n : Nat}, n ≤ 1000 → n ≤ sizeLine := fun h => Nat.le_trans h (by decide)
    have r := ok.read
    have fl := ok.low'
    have l1 := istr_sml ok.sml.1
    have l2 : (istr f.2).length ≤ 14 := istr_sml (by have := ok.sml.2; have := ok.low; omega)
    refine ⟨_, rfl, ⟨_, rfl⟩, _, _, rfl, rfl, rfl, wide (by omega), fun p hp => ?_⟩
    rw [r.part]
    have s0 := same_new (o := .tup [.str (istr f.1), .str (if f.2 = 1 then ("" : Str) else "/"), .str (if f.2 = 1 then ("" : Str) else istr f.2)]) hp
    refine ⟨p, _, rfl, SqT.of upd_same, rfl, _, _, rfl, _, _, rfl, _, _, rfl, rfl, ?_⟩
    generalize upd H p (.tup [.str (istr f.1), .str (if f.2 = 1 then ("" : Str) else "/"), .str (if f.2 = 1 then ("" : Str) else istr f.2)]) = H1 at *
    refine ⟨_, rfl, istr f.1, 1000, rfl, by omega, .inr (by omega), fun H2 s2 => ?_⟩
    rw [r.top.1, r.top.2]
    by_cases e : f.2 = 1
    · rw [if_pos e, if_pos e]
      dsimp only
      have q := q
      rw [e] at q
      refine ⟨_, rfl, false, ⟨wide (show 0 ≤ 1000 by decide), rfl⟩, ?_⟩
      refine iteF ?_
      refine ⟨_, rfl, rfl, _, rfl, ?_⟩
      refine iteF ?_
      refine ⟨_, rfl, rfl, _, rfl, ?_⟩
      refine iteF ?_
      refine ⟨_, rfl, _, rfl, f.1, 1, rfl, _, _, rfl, rfl, _, rfl, ?_⟩
      rw [decide_eq_false (show ¬ (1 : Int) < ((Nat.gcd f.1.natAbs (1 : Int).natAbs : Nat) : Int) by
        have : Nat.gcd f.1.natAbs (1 : Int).natAbs = 1 := Nat.gcd_one_right _
        rw [this]
        decide)]
      refine iteF ?_
      refine ⟨_, rfl, false, ⟨wide (show 0 ≤ 1000 by decide), rfl⟩, ?_⟩
      refine iteF ?_
      refine iteF ?_
      exact ⟨_, rfl, _, rfl, wide (show 2 ≤ 1000 by decide), fun a ha => q a _ ((s0.trans s2).trans (same_new ha)) upd_same⟩
    · rw [if_neg e, if_neg e]
      dsimp only
      have e2 : 2 ≤ f.2 := by
        have := ok.low
        omega
      refine ⟨_, rfl, true, ⟨wide (show 1 ≤ 1000 by decide), rfl⟩, ?_⟩
      refine iteT ?_
      refine ⟨_, rfl, istr f.2, 1000, rfl, by omega, .inr (by omega), fun H3 s3 => ?_⟩
      rw [r.bot.1, r.bot.2]
      refine ⟨_, rfl, rfl, _, rfl, ?_⟩
      refine iteF ?_
      refine ⟨_, rfl, rfl, _, rfl, ?_⟩
      refine iteF ?_
      refine ⟨_, rfl, _, rfl, f.1, f.2, rfl, _, _, rfl, rfl, _, rfl, ?_⟩
      rw [decide_eq_false (show ¬ (1 : Int) < ((Nat.gcd f.1.natAbs f.2.natAbs : Nat) : Int) by
        rw [ok.gcd]
        decide)]
      refine iteF ?_
      refine ⟨_, rfl, true, ⟨wide (show 1 ≤ 1000 by decide), rfl⟩, ?_⟩
      refine iteT ?_
      refine ⟨_, rfl, _, _, rfl, rfl, _, rfl, ?_⟩
      rw [decide_eq_false (show ¬ f.2 < 2 by omega)]
      refine iteF ?_
      exact ⟨_, rfl, _, rfl, wide (show 2 ≤ 1000 by decide), fun a ha => q a _ (((s0.trans s2).trans s3).trans (same_new ha)) upd_same⟩
def spRGates (K : PySem.W.Frag) : Sp := fun vs H Q _ => ∃ (l : Addr) (gs : List Int), vs = [.ref l] ∧ SqL K H l ((gs.map istr).map V.str) ∧ GsOk gs ∧ ∀ (v : V) (H' : Hp), Same H H' → Td K H' v (gsD gs) → Q v H'
theorem ok_read_gates (T : Txt K mg) : FnOk P w K mg base CX0 4 T.f_read_gates T.fd_read_gates ["words"] (spRGates K) := by
  refine T.F_read_gates.ok sc_read_gates (fun vs H Q E h => ?_) (fun cdv A outer s H vs Q E hr h => ?_)
  · obtain ⟨l, gs, rfl, _⟩ := h
    rfl
  · obtain ⟨l, gs, rfl, hL, ok, q⟩ := h
    refine ⟨_, (pss_cons (ps_set (i := 1) sc_read_gates.nd rfl (Or.inl rfl) (pe_callTy call_tuple_of (by rfl) T.n_tuple (by decide +kernel) (pa_cons (pe_lc (own := [("word", 2)]) (g := gName 2) (by rfl) sc_read_gates.nd (pi_list (pv 0)) (blkOk_by (own := [("word", 2)]) (by rfl)) (fun _ _ _ _ _ => (pg_name (i := 2) sc_read_gates.nd rfl (Or.inl rfl))) (fun _ _ _ _ _ => pts_nil) (fun _ _ _ _ _ => (pe_call (ok_gate_of T) (hr.mono (by decide)) (by rfl) T.g_gate_of T.F_gate_of.kp T.b_gate_of .nil pass0 (pa_cons (pv 2) pa_nil)))) pa_nil)))
  (pss_one (ps_ret (pe_ifExp (PW.pt (pw_or (pt_cmpR op_in_seq pe_non (pv 1) rfl) (pw_or1 (pt_cmpR (op_neD hr.units) (pv 1) (pe_call (ok_ascending T) (hr.mono (by decide)) (by rfl) T.g_ascending T.F_ascending.kp T.b_ascending .nil pass0 (pa_cons (pv 1) pa_nil)) (nomark _))))) pe_non (pv 1))))), ?_⟩
    have gl := ok.len
    refine ⟨_, rfl, l, rfl, ⟨_, hL⟩, fun D hD => ?_⟩
    refine lc_list (K := K) (a := l) (xs := (gs.map istr).map V.str) (fun i H' => Same H H' ∧ H' D = some (.lst ((gs.take i).map V.int))) ⟨same_new hD, upd_same⟩ (fun i H' _ ⟨s, _⟩ => SqL.ext hL s) ?_ ?_
    · rintro i x H' hx ⟨s, g⟩
      obtain ⟨z, hz, rfl⟩ := str_at hx
      rw [List.getElem?_map] at hz
      cases e : gs[i]? with
      | none =>
        rw [e] at hz
        cases hz
      | some y =>
        rw [e] at hz
        cases Option.some.inj hz
        refine ⟨rfl, ?_⟩
        refine ⟨_, rfl, y, rfl, ok.rng y (List.mem_of_getElem? e), fun H2 s2 => ?_⟩
        refine ⟨_, s2 _ _ g, ?_, fun b u hu => ?_, ?_⟩
        · rw [List.length_map, List.length_take]
          exact Nat.lt_of_le_of_lt (show min i gs.length ≤ 4 by omega) (by decide)
        · rw [upd_ne (ne_of_none hu hD)]
          exact s2 _ _ (s _ _ hu)
        · rw [upd_same, take_more e, List.map_append]
          rfl
    · rintro H' ⟨s, g⟩
      rw [List.length_map, List.length_map, List.take_length] at g
      refine ⟨D, _, rfl, .inl ⟨SqL.of g, fun t ht => ?_⟩⟩
      have st := s.trans (same_new (o := .tup (gs.map V.int)) ht)
      have gt : (upd H' t (.tup (gs.map V.int))) t = some (.tup (gs.map V.int)) := upd_same
      generalize upd H' t (.tup (gs.map V.int)) = H2 at *
      refine ⟨_, rfl, t, _, rfl, .inr (SqT.of gt), rfl, flat_ints _, _, rfl, ?_⟩
      rw [show (if false = true then !inV V.non (gs.map V.int) else inV V.non (gs.map V.int)) = inV V.non (gs.map V.int) from rfl, inV_non]
      refine iteF ?_
      refine ⟨_, rfl, _, rfl, t, gs, rfl, .inr (SqT.of gt), by omega, ok.rng, fun v H3 s3 gv => ?_⟩
      have g3 := td_gs (gs := gs) (SqT.of (K := K) (s3 _ _ gt))
      refine ⟨gsD gs, gsD (asc4 fun x => decide (x ∈ gs)), g3.dp, gv.dp, shaped_gs ok, shaped_gs (asc4_ok _), _, rfl, ?_⟩
      rw [eqv_gs, ← ok.eq_asc, decide_eq_true rfl]
      refine iteF ?_
      exact ⟨_, rfl, q _ _ (st.trans s3) g3⟩
end
end OG
set_option Elab.async false
set_option linter.all false
set_option maxRecDepth 100000
set_option maxHeartbeats 8000000
namespace OG
open PySem PySem.Spec PyProof.Rows L2
/-- what a form's words tell -/
def Frm.told (kn : Kn) (f : Frm) : PyData := .tuple [.str f.word, .tuple f.partsL, gsD (f.gates kn)]
section
variable {P : Program} {w : World} {K : PySem.W.Frag} {mg : Str → Option Value} {base : Heap}
def spRd (K : PySem.W.Frag) (ok : Frm → Prop) (ws : Frm → List Str) : Sp := fun vs H Q _ => ∃ (l : Addr) (f : Frm), vs = [.ref l] ∧ ok f ∧ SqL K H l ((ws f).map V.str) ∧ ∀ (a : Addr) (H' : Hp), Same H H' → Td K H' (.ref a) (f.told []) → Q (.ref a) H'
def spRdG (K : PySem.W.Frag) (ok : Kn → Frm → Prop) (ws : Frm → List Str) : Sp := fun vs H Q _ => ∃ (l kd : Addr) (kn : Kn) (kvs : List (Key × V)) (f : Frm), vs = [.ref l, .ref kd] ∧ H kd = some (.dK kvs) ∧ KnD K H kvs kn ∧ KnOk kn ∧ FrmOk kn f ∧ ok kn f ∧ SqL K H l ((ws f).map V.str) ∧
  ∀ (a : Addr) (H' : Hp), Same H H' → Td K H' (.ref a) (f.told kn) → Q (.ref a) H'
def wsOne : Frm → List Str
  | .one gs => gs.map istr
  | _ => []
def isOne : Frm → Prop
  | .one gs => GsOk gs
  | _ => False
theorem ok_read_one (T : Txt K mg) : FnOk P w K mg base CX0 5 T.f_read_one T.fd_read_one ["words"] (spRd K isOne wsOne) := by
  refine T.F_read_one.ok sc_read_one (fun vs H Q E h => ?_) (fun cdv A outer s H vs Q E hr h => ?_)
  · obtain ⟨l, f, rfl, _⟩ := h
    rfl
  · obtain ⟨l, f, rfl, ok, hL, q⟩ := h
    refine ⟨_, (pss_cons (ps_set (i := 1) sc_read_one.nd rfl (Or.inl rfl) (pe_call (ok_read_gates T) (hr.mono (by decide)) (by rfl) T.g_read_gates T.F_read_gates.kp T.b_read_gates .nil pass0 (pa_cons (pv 0) pa_nil)))
  (pss_one (ps_ret (pe_ifExp (pt_cmpR op_isN (pv 1) pe_non (nomark _)) pe_non (pe_tup (pa_cons pe_str (pa_cons (pv 1) (pa_cons (pv 1) pa_nil)))))))), ?_⟩
    have wide : ∀ {n : Nat}, n ≤ 1000 → n ≤ sizeLine := fun h => Nat.le_trans h (by decide)
    cases f with
    | one gs =>
      refine ⟨_, rfl, l, gs, rfl, hL, ok, fun v H1 s1 gv => ?_⟩
      obtain ⟨g, rfl, hg⟩ := gv.gs
      refine ⟨_, rfl, rfl, _, rfl, ?_⟩
      refine iteF ?_
      refine ⟨_, rfl, _, rfl, wide (show 3 ≤ 1000 by decide), fun a ha => q a _ (s1.trans (same_new ha)) ?_⟩
      have g2 := gv.mv (Same.tk (same_new (o := .tup [.str "one", .ref g, .ref g]) ha))
      exact .tup (SqT.of upd_same) (.cons (.str _) (.cons g2 (.cons g2 .nil)))
    | road k g h => exact ok.elim
    | prod a b => exact ok.elim
    | close g a => exact ok.elim
    | turn g h a => exact ok.elim
    | add fs => exact ok.elim
def wsRoad : Frm → List Str
  | .road k g h => [k, istr g, istr h]
  | _ => []
def isRoad : Frm → Prop
  | .road k g h => IsNm k ∧ (1 ≤ g ∧ g ≤ 4) ∧ 1 ≤ h ∧ h ≤ 4
  | _ => False
theorem ok_read_road (T : Txt K mg) : FnOk P w K mg base CX0 5 T.f_read_road T.fd_read_road ["words"] (spRd K isRoad wsRoad) := by
  refine T.F_read_road.ok sc_read_road (fun vs H Q E h => ?_) (fun cdv A outer s H vs Q E hr h => ?_)
  · obtain ⟨l, f, rfl, _⟩ := h
    rfl
  · obtain ⟨l, f, rfl, ok, hL, q⟩ := h
    refine ⟨_, (pss_cons (ps_if (PW.pt (pw_or (pt_cmpR op_ne (pe_callB call_len_seq (by rfl) T.n_len PySem.boot_len (pa_cons (pv 0) pa_nil)) pe_int (nomark _)) (pw_or1 (pt_not (pt_val (pe_call (ok_is_letters T) (hr.mono (by decide)) (by rfl) T.g_is_letters T.F_is_letters.kp T.b_is_letters .nil pass0 (pa_cons (pe_ix ix_list (pv 0) pe_int (fun _ _ => rfl)) (pa_cons pe_int pa_nil)))))))) (pss_one (ps_ret pe_non)) pss_nil)
  (pss_cons (ps_set (i := 1) sc_read_road.nd rfl (Or.inl rfl) (pe_call (ok_gate_of T) (hr.mono (by decide)) (by rfl) T.g_gate_of T.F_gate_of.kp T.b_gate_of .nil pass0 (pa_cons (pe_ix ix_list (pv 0) pe_int (fun _ _ => rfl)) pa_nil)))
  (pss_cons (ps_set (i := 2) sc_read_road.nd rfl (Or.inl rfl) (pe_call (ok_gate_of T) (hr.mono (by decide)) (by rfl) T.g_gate_of T.F_gate_of.kp T.b_gate_of .nil pass0 (pa_cons (pe_ix ix_list (pv 0) pe_int (fun _ _ => rfl)) pa_nil)))
  (pss_cons (ps_if (PW.pt (pw_or (pt_cmpR op_isN (pv 1) pe_non (nomark _)) (pw_or1 (pt_cmpR op_isN (pv 2) pe_non (nomark _))))) (pss_one (ps_ret pe_non)) pss_nil)
  (pss_one (ps_ret (pe_tup (pa_cons pe_str (pa_cons (pe_tup (pa_cons (pe_ix ix_list (pv 0) pe_int (fun _ _ => rfl)) (pa_cons (pv 1) (pa_cons (pv 2) pa_nil)))) (pa_cons (pe_call (ok_ascending T) (hr.mono (by decide)) (by rfl) T.g_ascending T.F_ascending.kp T.b_ascending .nil pass0 (pa_cons (pe_tup (pa_cons (pv 1) (pa_cons (pv 2) pa_nil))) pa_nil)) pa_nil)))))))))), ?_⟩
    have wide : ∀ {n : Nat}, n ≤ 1000 → n ≤ sizeLine := fun h => Nat.le_trans h (by decide)
    cases f with
    | one gs => exact ok.elim
    | road k g h =>
      obtain ⟨hk, hg, hh⟩ := ok
      have hL : SqL K H l [.str k, .str (istr g), .str (istr h)] := hL
      refine ⟨_, rfl, l, _, rfl, .inl hL, rfl, _, rfl, ?_⟩
      refine iteF ?_
      refine ⟨_, rfl, l, _, 0, .str k, rfl, rfl, hL, rfl, k, 4, rfl, Nat.le_trans hk.2.1 (by decide), fun H1 s1 => ?_⟩
      rw [nmB_of hk]
      refine ⟨_, rfl, ?_⟩
      refine iteF ?_
      have hL1 := SqL.ext hL s1
      refine ⟨_, rfl, l, _, 1, .str (istr g), rfl, rfl, hL1, rfl, g, rfl, hg, fun H2 s2 => ?_⟩
      have hL2 := SqL.ext hL1 s2
      refine ⟨_, rfl, l, _, 2, .str (istr h), rfl, rfl, hL2, rfl, h, rfl, hh, fun H3 s3 => ?_⟩
      have hL3 := SqL.ext hL2 s3
      refine ⟨_, rfl, rfl, _, rfl, ?_⟩
      refine iteF ?_
      refine ⟨_, rfl, rfl, _, rfl, ?_⟩
      refine iteF ?_
      refine ⟨_, rfl, l, _, 0, .str k, rfl, rfl, hL3, rfl, _, rfl, _, rfl, wide (show 3 ≤ 1000 by decide), fun t ht => ?_⟩
      refine ⟨_, rfl, _, rfl, wide (show 2 ≤ 1000 by decide), fun u hu => ?_⟩
      refine ⟨u, [g, h], rfl, .inr (SqT.of upd_same), by show 2 ≤ 20; decide, fun x hx => ?_, fun v H4 s4 gv => ⟨wide (show 3 ≤ 1000 by decide), fun a ha => ?_⟩⟩
      · simp only [List.mem_cons, List.mem_nil_iff, or_false] at hx
        rcases hx with rfl | rfl
        · exact hg
        · exact hh
      have st := ((same_new (o := .tup [.int g, .int h]) hu).trans s4).trans (same_new (o := .tup [.str "road", .ref t, v]) ha)
      refine q a _ ((((s1.trans s2).trans s3).trans (same_new ht)).trans st) ?_
      refine .tup (SqT.of upd_same) (.cons (.str _) (.cons (.tup (SqT.of (st _ _ upd_same)) (.cons (.str _) (.cons (.int _) (.cons (.int _) .nil)))) (.cons (gv.mv (Same.tk (same_new ha))) .nil)))
    | prod a b => exact ok.elim
    | close g a => exact ok.elim
    | turn g h a => exact ok.elim
    | add fs => exact ok.elim
end
end OG
set_option Elab.async false
set_option linter.all false
set_option maxRecDepth 100000
set_option maxHeartbeats 8000000
namespace OG
open PySem PySem.Spec PyProof.Rows L2
section
variable {P : Program} {w : World} {K : PySem.W.Frag} {mg : Str → Option Value} {base : Heap}
def wsProd : Frm → List Str
  | .prod a b => [a, "*", b]
  | _ => []
def isProd (_ : Kn) : Frm → Prop
  | .prod _ _ => True
  | _ => False
theorem ok_read_product (T : Txt K mg) : FnOk P w K mg base CX0 5 T.f_read_product T.fd_read_product ["words", "gates"] (spRdG K isProd wsProd) := by
  refine T.F_read_product.ok sc_read_product (fun vs H Q E h => ?_) (fun cdv A outer s H vs Q E hr h => ?_)
  · obtain ⟨l, kd, kn, kvs, f, rfl, _⟩ := h
    rfl
  · obtain ⟨l, kd, kn, kvs, f, rfl, gk, hkn, hko, hf, ok, hL, q⟩ := h
    refine ⟨_, (pss_cons (ps_if (PW.pt (pw_or (pt_cmpR op_ne (pe_callB call_len_seq (by rfl) T.n_len PySem.boot_len (pa_cons (pv 0) pa_nil)) pe_int (nomark _)) (pw_or1 (pt_cmpR op_ne (pe_ix ix_list (pv 0) pe_int (fun _ _ => rfl)) pe_str (nomark _))))) (pss_one (ps_ret pe_non)) pss_nil)
  (pss_cons (ps_set (i := 2) sc_read_product.nd rfl (Or.inl rfl) (pe_ix ix_list (pv 0) pe_int (fun _ _ => rfl)))
  (pss_cons (ps_set (i := 3) sc_read_product.nd rfl (Or.inl rfl) (pe_ix ix_list (pv 0) pe_int (fun _ _ => rfl)))
  (pss_cons (ps_if (PW.pt (pw_or (pt_cmp (pc_dnotin (hu_of hr) (pv 2) (pv 1))) (pw_or1 (pt_cmp (pc_dnotin (hu_of hr) (pv 3) (pv 1)))))) (pss_one (ps_ret pe_non)) pss_nil)
  (pss_one (ps_ret (pe_tup (pa_cons pe_str (pa_cons (pe_tup (pa_cons (pv 2) (pa_cons (pv 3) pa_nil))) (pa_cons (pe_call (ok_ascending T) (hr.mono (by decide)) (by rfl) T.g_ascending T.F_ascending.kp T.b_ascending .nil pass0 (pa_cons (pe_op op_catA (pe_dget (hu_of hr) (pv 1) (pv 2) (fun _ _ => rfl)) (pe_dget (hu_of hr) (pv 1) (pv 3) (fun _ _ => rfl))) pa_nil)) pa_nil)))))))))), ?_⟩
    have wide : ∀ {n : Nat}, n ≤ 1000 → n ≤ sizeLine := fun h => Nat.le_trans h (by decide)
    cases f with
    | one gs => exact ok.elim
    | road k g h => exact ok.elim
    | prod x y =>
      have hL : SqL K H l [.str x, .str "*", .str y] := hL
      obtain ⟨⟨ga, ea⟩, gb, eb⟩ := hf
      obtain ⟨va, va1, va2⟩ := hkn.get ea
      obtain ⟨vb, vb1, vb2⟩ := hkn.get eb
      obtain ⟨aa, rfl, va3⟩ := va2.gs
      obtain ⟨ab, rfl, vb3⟩ := vb2.gs
      have la := (hko.at ea).len
      have lb := (hko.at eb).len
      refine ⟨_, rfl, l, _, rfl, .inl hL, rfl, _, rfl, ?_⟩
      refine iteF ?_
      refine ⟨_, rfl, l, _, 1, .str "*", rfl, rfl, hL, rfl, rfl, _, rfl, ?_⟩
      refine iteF ?_
      refine ⟨_, rfl, l, _, 0, .str x, rfl, rfl, hL, rfl, ?_⟩
      refine ⟨_, rfl, l, _, 2, .str y, rfl, rfl, hL, rfl, ?_⟩
      refine ⟨_, rfl, _, rfl, kd, some (.ref aa), rfl, .inl ⟨kvs, .inr x, .inl gk, rfl, va1.symm⟩, _, rfl, ?_⟩
      refine iteF ?_
      refine ⟨_, rfl, _, rfl, kd, some (.ref ab), rfl, .inl ⟨kvs, .inr y, .inl gk, rfl, vb1.symm⟩, _, rfl, ?_⟩
      refine iteF ?_
      refine ⟨_, rfl, _, rfl, wide (show 2 ≤ 1000 by decide), fun t ht => ?_⟩
      have s1 := same_new (o := .tup [.str x, .str y]) ht
      have gt : (upd H t (.tup [.str x, .str y])) t = some (.tup [.str x, .str y]) := upd_same
      generalize upd H t (.tup [.str x, .str y]) = H1 at *
      refine ⟨_, rfl, _, rfl, kd, .ref aa, rfl, .inl ⟨kvs, .inr x, .inl (s1 _ _ gk), rfl, va1.symm⟩, _, rfl, _, rfl, kd, .ref ab, rfl, .inl ⟨kvs, .inr y, .inl (s1 _ _ gk), rfl, vb1.symm⟩, ?_⟩
      refine catI (K := K) (SqT.tk va3 (Same.tk s1)) (SqT.tk vb3 (Same.tk s1)) (by rw [List.length_map, List.length_map]; omega) fun bt H2 s2 g2 => ?_
      rw [← List.map_append] at g2
      refine ⟨bt, ga ++ gb, rfl, .inr g2, by rw [List.length_append]; omega, fun z hz => ?_, fun v H4 s4 gv => ⟨wide (show 3 ≤ 1000 by decide), fun a ha => ?_⟩⟩
      · rcases List.mem_append.mp hz with hz | hz
        · exact (hko.at ea).rng z hz
        · exact (hko.at eb).rng z hz
      have st := (s2.trans s4).trans (same_new (o := .tup [.str "*", .ref t, v]) ha)
      refine q a _ (s1.trans st) ?_
      refine .tup (SqT.of upd_same) (.cons (.str _) (.cons (.tup (SqT.of (st _ _ gt)) (.cons (.str _) (.cons (.str _) .nil))) (.cons ?_ .nil)))
      show Td K _ _ (gsD (asc4 fun z => decide (z ∈ (glk kn x).getD [] ++ (glk kn y).getD [])))
      rw [ea, eb]
      exact gv.mv (Same.tk (same_new ha))
    | close g a => exact ok.elim
    | turn g h a => exact ok.elim
    | add fs => exact ok.elim
def wsClose : Frm → List Str
  | .close g a => [istr g, a]
  | _ => []
def isClose (_ : Kn) : Frm → Prop
  | .close _ _ => True
  | _ => False
theorem ok_read_close (T : Txt K mg) : FnOk P w K mg base CX0 5 T.f_read_close T.fd_read_close ["words", "gates"] (spRdG K isClose wsClose) := by
  refine T.F_read_close.ok sc_read_close (fun vs H Q E h => ?_) (fun cdv A outer s H vs Q E hr h => ?_)
  · obtain ⟨l, kd, kn, kvs, f, rfl, _⟩ := h
    rfl
  · obtain ⟨l, kd, kn, kvs, f, rfl, gk, hkn, hko, hf, ok, hL, q⟩ := h
    refine ⟨_, (pss_cons (ps_if (PW.pt (pw_or (pt_cmpR op_ne (pe_callB call_len_seq (by rfl) T.n_len PySem.boot_len (pa_cons (pv 0) pa_nil)) pe_int (nomark _)) (pw_or1 (pt_cmp (pc_dnotin (hu_of hr) (pe_ix ix_list (pv 0) pe_int (fun _ _ => rfl)) (pv 1)))))) (pss_one (ps_ret pe_non)) pss_nil)
  (pss_cons (ps_set (i := 2) sc_read_close.nd rfl (Or.inr rfl) (pe_call (ok_gate_of T) (hr.mono (by decide)) (by rfl) T.g_gate_of T.F_gate_of.kp T.b_gate_of .nil pass0 (pa_cons (pe_ix ix_list (pv 0) pe_int (fun _ _ => rfl)) pa_nil)))
  (pss_cons (ps_set (i := 3) sc_read_close.nd rfl (Or.inl rfl) (pe_ix ix_list (pv 0) pe_int (fun _ _ => rfl)))
  (pss_cons (ps_if (pt_cmpR op_notIn_seq (pv 2) (pe_dget (hu_of hr) (pv 1) (pv 3) (fun _ _ => rfl)) rfl) (pss_one (ps_ret pe_non)) pss_nil)
  (pss_one (ps_ret (pe_tup (pa_cons pe_str (pa_cons (pe_tup (pa_cons (pv 2) (pa_cons (pv 3) pa_nil))) (pa_cons (pe_callTy call_tuple_of (by rfl) T.n_tuple (by decide +kernel) (pa_cons (pe_lc (own := [("left", 4)]) (g := gName 4) (by rfl) sc_read_close.nd (pi_tup (pe_dget (hu_of hr) (pv 1) (pv 3) (fun _ _ => rfl))) (blkOk_by (own := [("left", 4)]) (by rfl)) (fun _ _ _ _ _ => (pg_name (i := 4) sc_read_close.nd rfl (Or.inl rfl))) (fun _ _ _ _ _ => (pts_one (pt_cmpR op_ne (pv 4) (pv 2) (nomark _)))) (fun _ _ _ _ _ => (pv 4))) pa_nil)) pa_nil)))))))))), ?_⟩
    have wide : ∀ {n : Nat}, n ≤ 1000 → n ≤ sizeLine := fun h => Nat.le_trans h (by decide)
    cases f with
    | one gs => exact ok.elim
    | road k g h => exact ok.elim
    | prod a b => exact ok.elim
    | close g x =>
      have hL : SqL K H l [.str (istr g), .str x] := hL
      obtain ⟨ga, ea, gm⟩ := hf
      obtain ⟨va, va1, va2⟩ := hkn.get ea
      obtain ⟨aa, rfl, va3⟩ := va2.gs
      have la := (hko.at ea).len
      have hg := (hko.at ea).rng g gm
      refine ⟨_, rfl, l, _, rfl, .inl hL, rfl, _, rfl, ?_⟩
      refine iteF ?_
      refine ⟨_, rfl, l, _, 1, .str x, rfl, rfl, hL, rfl, _, rfl, kd, some (.ref aa), rfl, .inl ⟨kvs, .inr x, .inl gk, rfl, va1.symm⟩, _, rfl, ?_⟩
      refine iteF ?_
      refine ⟨_, rfl, l, _, 0, .str (istr g), rfl, rfl, hL, rfl, g, rfl, hg, fun H1 s1 => ?_⟩
      have hL1 := SqL.ext hL s1
      refine ⟨_, rfl, l, _, 1, .str x, rfl, rfl, hL1, rfl, ?_⟩
      have va31 := SqT.tk va3 (Same.tk s1)
      refine ⟨_, rfl, _, rfl, _, rfl, kd, .ref aa, rfl, .inl ⟨kvs, .inr x, .inl (s1 _ _ gk), rfl, va1.symm⟩, aa, _, rfl, .inr va31, rfl, flat_ints _, _, rfl, ?_⟩
      rw [show (if true = true then !inV (V.int g) (ga.map V.int) else inV (V.int g) (ga.map V.int)) = !inV (V.int g) (ga.map V.int) from rfl, inV_int, decide_eq_true gm]
      refine iteF ?_
      refine ⟨_, rfl, _, rfl, wide (show 2 ≤ 1000 by decide), fun t ht => ?_⟩
      have s2 := s1.trans (same_new (o := .tup [.int g, .str x]) ht)
      have gt : (upd H1 t (.tup [.int g, .str x])) t = some (.tup [.int g, .str x]) := upd_same
      generalize upd H1 t (.tup [.int g, .str x]) = H2 at *
      have va32 := SqT.tk va3 (Same.tk s2)
      refine ⟨_, rfl, _, rfl, kd, .ref aa, rfl, .inl ⟨kvs, .inr x, .inl (s2 _ _ gk), rfl, va1.symm⟩, aa, rfl, ⟨_, va32⟩, fun D hD => ?_⟩
      refine lc_filtT (K := K) (a := aa) (xs := ga.map V.int) (fun v => !decide (v = .int g)) (by rw [List.length_map]; omega) hD va32 (fun _ => rfl) (fun z H' Q hx s3 kk => ?_) (fun z H' Q kk => ⟨_, rfl, kk⟩) (fun H' s3 gD => ?_)
      · obtain ⟨y, _, rfl⟩ := List.mem_map.mp hx
        exact ⟨_, rfl, _, rfl, rfl, _, rfl, kk _ (Same.refl _)⟩
      · rw [filt_ints _ (fun z => !decide (z = g)) (fun y => by rw [show decide (V.int y = V.int g) = decide (y = g) from decide_eq_decide.mpr ⟨V.int.inj, congrArg V.int⟩])] at gD
        refine ⟨D, _, rfl, .inl ⟨SqL.of gD, fun u hu => ⟨wide (show 3 ≤ 1000 by decide), fun a ha => ?_⟩⟩⟩
        have su := same_new (o := .tup ((ga.filter fun z => !decide (z = g)).map V.int)) hu
        have sa := same_new (o := .tup [.str "close", .ref t, .ref u]) ha
        refine q a _ (((s2.trans s3).trans su).trans sa) ?_
        refine .tup (SqT.of upd_same) (.cons (.str _) (.cons (.tup (SqT.of (sa _ _ (su _ _ (s3 _ _ gt)))) (.cons (.int _) (.cons (.str _) .nil))) (.cons ?_ .nil)))
        show Td K _ _ (gsD (((glk kn x).getD []).filter fun z => !decide (z = g)))
        rw [ea]
        exact td_gs (SqT.of (sa _ _ upd_same))
    | turn g h a => exact ok.elim
    | add fs => exact ok.elim
end
end OG
set_option Elab.async false
set_option linter.all false
set_option maxRecDepth 100000
set_option maxHeartbeats 8000000
namespace OG
open PySem PySem.Spec PyProof.Rows L2
section
variable {P : Program} {w : World} {K : PySem.W.Frag} {mg : Str → Option Value} {base : Heap}
def wsTurn : Frm → List Str
  | .turn g h a => [istr g, istr h, a]
  | _ => []
def isTurn (_ : Kn) : Frm → Prop
  | .turn _ _ _ => True
  | _ => False
theorem ok_read_turn (T : Txt K mg) : FnOk P w K mg base CX0 5 T.f_read_turn T.fd_read_turn ["words", "gates"] (spRdG K isTurn wsTurn) := by
  refine T.F_read_turn.ok sc_read_turn (fun vs H Q E h => ?_) (fun cdv A outer s H vs Q E hr h => ?_)
  · obtain ⟨l, kd, kn, kvs, f, rfl, _⟩ := h
    rfl
  · obtain ⟨l, kd, kn, kvs, f, rfl, gk, hkn, hko, hf, ok, hL, q⟩ := h
    refine ⟨_, (pss_cons (ps_if (PW.pt (pw_or (pt_cmpR op_ne (pe_callB call_len_seq (by rfl) T.n_len PySem.boot_len (pa_cons (pv 0) pa_nil)) pe_int (nomark _)) (pw_or1 (pt_cmp (pc_dnotin (hu_of hr) (pe_ix ix_list (pv 0) pe_int (fun _ _ => rfl)) (pv 1)))))) (pss_one (ps_ret pe_non)) pss_nil)
  (pss_cons (ps_set (i := 2) sc_read_turn.nd rfl (Or.inl rfl) (pe_call (ok_gate_of T) (hr.mono (by decide)) (by rfl) T.g_gate_of T.F_gate_of.kp T.b_gate_of .nil pass0 (pa_cons (pe_ix ix_list (pv 0) pe_int (fun _ _ => rfl)) pa_nil)))
  (pss_cons (ps_set (i := 3) sc_read_turn.nd rfl (Or.inl rfl) (pe_call (ok_gate_of T) (hr.mono (by decide)) (by rfl) T.g_gate_of T.F_gate_of.kp T.b_gate_of .nil pass0 (pa_cons (pe_ix ix_list (pv 0) pe_int (fun _ _ => rfl)) pa_nil)))
  (pss_cons (ps_set (i := 4) sc_read_turn.nd rfl (Or.inl rfl) (pe_ix ix_list (pv 0) pe_int (fun _ _ => rfl)))
  (pss_cons (ps_if (PW.pt (pw_or (pt_cmpR op_isN (pv 2) pe_non (nomark _)) (pw_or (pt_cmpR op_isN (pv 3) pe_non (nomark _)) (pw_or1 (pt_cmpR op_eq (pv 2) (pv 3) (nomark _)))))) (pss_one (ps_ret pe_non)) pss_nil)
  (pss_cons (ps_if (OGX.pt_cut (PW.pt (pw_and (pt_cmpR op_notIn_seq (pv 2) (pe_dget (hu_of hr) (pv 1) (pv 4) (fun _ _ => rfl)) rfl) (pw_and1 (pt_cmpR op_notIn_seq (pv 3) (pe_dget (hu_of hr) (pv 1) (pv 4) (fun _ _ => rfl)) rfl))))) (pss_one (ps_ret pe_non)) pss_nil)
  (pss_cons (ps_set (i := 5) sc_read_turn.nd rfl (Or.inr rfl) (pe_disp (pps_cons (pv 2) (pv 3) (pps_cons (pv 3) (pv 2) pps_nil)) (by rfl) (by rfl) (fun z => by cases z) (by decide)))
  (pss_one (ps_ret (pe_tup (pa_cons pe_str (pa_cons (pe_tup (pa_cons (pv 2) (pa_cons (pv 3) (pa_cons (pv 4) pa_nil)))) (pa_cons (pe_call (ok_ascending T) (hr.mono (by decide)) (by rfl) T.g_ascending T.F_ascending.kp T.b_ascending .nil pass0 (pa_cons (pe_lc (own := [("gate", 6)]) (g := gName 6) (by rfl) sc_read_turn.nd (pi_tup (pe_dget (hu_of hr) (pv 1) (pv 4) (fun _ _ => rfl))) (blkOk_by (own := [("gate", 6)]) (by rfl)) (fun _ _ _ _ _ => (pg_name (i := 6) sc_read_turn.nd rfl (Or.inl rfl))) (fun _ _ _ _ _ => pts_nil) (fun _ _ _ _ _ => (pe_dget2 (hu_of hr) (pv 5) (pv 6) (pv 6) ⟨rfl, rfl, rfl, rfl⟩))) pa_nil)) pa_nil))))))))))))), ?_⟩
    have wide : ∀ {n : Nat}, n ≤ 1000 → n ≤ sizeLine := fun h => Nat.le_trans h (by decide)
    cases f with
    | one gs => exact ok.elim
    | road k g h => exact ok.elim
    | prod a b => exact ok.elim
    | close g a => exact ok.elim
    | turn g h x =>
      have hL : SqL K H l [.str (istr g), .str (istr h), .str x] := hL
      obtain ⟨hgh, hg, hh, ga, ea, gm⟩ := hf
      obtain ⟨va, va1, va2⟩ := hkn.get ea
      obtain ⟨aa, rfl, va3⟩ := va2.gs
      have la := (hko.at ea).len
      refine ⟨_, rfl, l, _, rfl, .inl hL, rfl, _, rfl, ?_⟩
      refine iteF ?_
      refine ⟨_, rfl, l, _, 2, .str x, rfl, rfl, hL, rfl, _, rfl, kd, some (.ref aa), rfl, .inl ⟨kvs, .inr x, .inl gk, rfl, va1.symm⟩, _, rfl, ?_⟩
      refine iteF ?_
      refine ⟨_, rfl, l, _, 0, .str (istr g), rfl, rfl, hL, rfl, g, rfl, hg, fun H1 s1 => ?_⟩
      have hL1 := SqL.ext hL s1
      refine ⟨_, rfl, l, _, 1, .str (istr h), rfl, rfl, hL1, rfl, h, rfl, hh, fun H2 s2 => ?_⟩
      have hL2 := SqL.ext hL1 s2
      have s2 := s1.trans s2
      refine ⟨_, rfl, l, _, 2, .str x, rfl, rfl, hL2, rfl, ?_⟩
      refine ⟨_, rfl, rfl, _, rfl, ?_⟩
      refine iteF ?_
      refine ⟨_, rfl, rfl, _, rfl, ?_⟩
      refine iteF ?_
      refine ⟨_, rfl, _, rfl, rfl, _, rfl, ?_⟩
      rw [decide_eq_false fun z => hgh (V.int.inj z)]
      refine iteF ?_
      have va32 := SqT.tk va3 (Same.tk s2)
      have gk2 := s2 _ _ gk
      refine ⟨fun b H' => b = false ∧ H' = H2, fun b H' ⟨eb, eH⟩ => ?_, ?_⟩
      rotate_left
      · refine ⟨_, rfl, _, rfl, _, rfl, kd, .ref aa, rfl, .inl ⟨kvs, .inr x, .inl gk2, rfl, va1.symm⟩, aa, _, rfl, .inr va32, rfl, flat_ints _, _, rfl, ?_⟩
        rw [show (if true = true then !inV (V.int g) (ga.map V.int) else inV (V.int g) (ga.map V.int)) = !inV (V.int g) (ga.map V.int) from rfl, inV_int]
        by_cases e : g ∈ ga
        · rw [decide_eq_true e]
          exact iteF ⟨rfl, rfl⟩
        · rw [decide_eq_false e]
          refine iteT ?_
          refine ⟨_, rfl, _, rfl, _, rfl, kd, .ref aa, rfl, .inl ⟨kvs, .inr x, .inl gk2, rfl, va1.symm⟩, aa, _, rfl, .inr va32, rfl, flat_ints _, _, rfl, ?_⟩
          rw [show (if true = true then !inV (V.int h) (ga.map V.int) else inV (V.int h) (ga.map V.int)) = !inV (V.int h) (ga.map V.int) from rfl, inV_int, decide_eq_true (gm.resolve_left e)]
          exact ⟨rfl, rfl⟩
      subst eb
      subst eH
      refine iteF ?_
      refine fun d hd => ?_
      refine ⟨_, rfl, _, rfl, _, rfl, _, rfl, upd_same, swD g h, rfl, by show 2 ≤ 15; decide, ?_⟩
      rw [swD_merge hgh]
      have s3 : Same H (upd (upd H' d (.dK [])) d (.dK (swD g h))) := s2.trans fun b o e => by
        rw [upd_ne (ne_of_none e hd), upd_ne (ne_of_none e hd)]
        exact e
      have g3 : (upd (upd H' d (.dK [])) d (.dK (swD g h))) d = some (.dK (swD g h)) := upd_same
      generalize upd (upd H' d (.dK [])) d (.dK (swD g h)) = H3 at *
      refine ⟨_, rfl, _, rfl, _, rfl, wide (show 3 ≤ 1000 by decide), fun t ht => ?_⟩
      have s4 := s3.trans (same_new (o := .tup [.int g, .int h, .str x]) ht)
      have gt : (upd H3 t (.tup [.int g, .int h, .str x])) t = some (.tup [.int g, .int h, .str x]) := upd_same
      have g4 : (upd H3 t (.tup [.int g, .int h, .str x])) d = some (.dK (swD g h)) := same_new ht _ _ g3
      generalize upd H3 t (.tup [.int g, .int h, .str x]) = H4 at *
      have va4 := SqT.tk va3 (Same.tk s4)
      refine ⟨_, rfl, _, rfl, kd, .ref aa, rfl, .inl ⟨kvs, .inr x, .inl (s4 _ _ gk), rfl, va1.symm⟩, aa, rfl, ⟨_, va4⟩, fun D hD => ?_⟩
      refine lc_mapT (K := K) (a := aa) (xs := ga.map V.int) (swF g h) (by rw [List.length_map]; omega) hD va4 (fun _ => rfl) (fun z H' Q kk => kk) (fun z H' Q hx s5 kk => ?_) (fun H' s5 gD => ?_)
      · obtain ⟨y, _, rfl⟩ := List.mem_map.mp hx
        exact ⟨_, rfl, d, rfl, .inl ⟨_, .inl (s5 _ _ g4)⟩, _, rfl, _, rfl, _, .inl ⟨_, .inl y, .inl (s5 _ _ g4), rfl, rfl⟩, kk _ (Same.refl _)⟩
      · rw [swF_map] at gD
        refine ⟨D, ga.map (swp g h), rfl, .inl (SqL.of gD), by rw [List.length_map]; omega, fun z hz => ?_, fun v H5 s6 gv => ⟨wide (show 3 ≤ 1000 by decide), fun a ha => ?_⟩⟩
        · obtain ⟨y, hy, rfl⟩ := List.mem_map.mp hz
          exact swp_rng hg hh ((hko.at ea).rng y hy)
        have sa := same_new (o := .tup [.str "turn", .ref t, v]) ha
        refine q a _ (((s4.trans s5).trans s6).trans sa) ?_
        refine .tup (SqT.of upd_same) (.cons (.str _) (.cons (.tup (SqT.of (sa _ _ (s6 _ _ (s5 _ _ gt)))) (.cons (.int _) (.cons (.int _) (.cons (.str _) .nil)))) (.cons ?_ .nil)))
        show Td K _ _ (gsD (asc4 fun z => decide (z ∈ ((glk kn x).getD []).map (swp g h))))
        rw [ea]
        exact gv.mv (Same.tk sa)
    | add fs => exact ok.elim
end
end OG
set_option Elab.async false
set_option linter.all false
set_option maxRecDepth 100000
set_option maxHeartbeats 4000000
namespace OGX
open PySem PySem.Spec PyProof.Rows L2
/-! tuple(zip(xs, ys)), two lists of one length: new tuples -/
theorem nolen_zip : typeLookup (.type "zip") "__len__" = pure none := by rw [typeLookup_type, builtinLookup_eq_fast]; kernel_rfl
theorem nohint_zip : typeLookup (.type "zip") "__length_hint__" = pure none := by rw [typeLookup_type, builtinLookup_eq_fast]; kernel_rfl
structure ZSt (z TI TO i1 i2 l1 l2 S : Addr) (i : Nat) (h : Heap) : Prop where
  ti : IsPair h TI (.ref i1) (.ref i2)
  h1 : h.IsListIter i1 l1 i
  h2 : h.IsListIter i2 l2 i
  st : (IsZip h z TI TO .none ∧ ∃ a b, IsPair h TO a b) ∨ ∃ T f oT, IsZipHeld h z TI TO T f ∧ h.get? T = some oT ∧ T ≠ z ∧ T ≠ i1 ∧ T ≠ i2 ∧ T ≠ S
/-- the pairs that were made -/
structure Prs (H : Hp) (xs ys : List V) (i : Nat) (acc : Array Value) (ps : List Addr) : Prop where
  acc : acc.toList = ps.map Value.ref
  len : ps.length = i
  pr : ∀ (j : Nat) (x y : V) (p : Addr), xs[j]? = some x → ys[j]? = some y → ps[j]? = some p → H p = some (.tup [x, y])
theorem Prs.sz {H : Hp} {xs ys : List V} {i : Nat} {acc : Array Value} {ps : List Addr} (h : Prs H xs ys i acc ps) : acc.size = i := by
  rw [← h.len, ← Array.length_toList, h.acc, List.length_map]
theorem Prs.more {H : Hp} {xs ys : List V} {i : Nat} {acc : Array Value} {ps : List Addr} {T : Addr} {x y : V} (h : Prs H xs ys i acc ps) (hT : H T = none) (hx : xs[i]? = some x) (hy : ys[i]? = some y) : Prs (upd H T (.tup [x, y])) xs ys (i + 1) (acc.push (.ref T)) (ps ++ [T]) := by
  refine ⟨by rw [Array.toList_push, h.acc, List.map_append]; rfl, by rw [List.length_append, h.len]; rfl, fun j x' y' p e1 e2 e3 => ?_⟩
  by_cases hj : j < ps.length
  · rw [List.getElem?_append_left hj] at e3
    have q := h.pr j x' y' p e1 e2 e3
    rw [upd_ne (ne_of_none q hT)]
    exact q
  · rw [List.getElem?_append_right (by omega)] at e3
    have hj0 : j = ps.length := by
      have := (List.getElem?_eq_some_iff.mp e3).1
      simp at this
      omega
    subst hj0
    rw [h.len] at e1 e2
    rw [hx] at e1
    rw [hy] at e2
    cases e1
    cases e2
    rw [Nat.sub_self] at e3
    cases e3
    exact upd_same
theorem same_newZ {H : Hp} {p : Addr} {o : HO} (h : H p = none) : Same H (upd H p o) := fun b x e => by
  rw [upd_ne (ne_of_none e h)]
  exact e
theorem _root_.L2.SqL.mvS {K : PySem.W.Frag} {H H' : Hp} {a : Addr} {xs : List V} (h : SqL K H a xs) (e : Same H H') : SqL K H' a xs := h.elim (fun h => .inl (h.elim (fun h => .inl (e _ _ h)) fun ⟨o, h⟩ => .inr ⟨o, e _ _ h⟩)) fun h => .inr h
section
variable {X : Cx} {pins : List (Addr × Obj)} {σ : L2.St} {z TI TO i1 i2 l1 l2 S : Addr} {xs ys : List V}
theorem FpOk.new {b T : Addr} {H : Hp} {o : HO} (h : FpOk X pins H b) (n : b ≠ T) : FpOk X pins (upd H T o) b := ⟨by rw [upd_ne n]; exact h.1, h.2⟩
theorem zip_loop {A : Around} {R : Result → Shared → Prop} (hn : A.handled = none) (D : ZipApart z TI TO i1 i2 l1 l2) (nS : S ∉ [z, TI, TO, i1, i2, l1, l2]) (hl : xs.length = ys.length) (hm : xs.length ≤ 1000) (res : Value) :
    ∀ (k i : Nat) (s : Shared) (H : Hp) (acc : Array Value) (ps : List Addr) (c : Nat), xs.length - i = k → i ≤ xs.length → Inv X pins σ H s → SqL X.K H l1 xs → SqL X.K H l2 ys →
      (∀ b ∈ [S, z, TO, i1, i2], FpOk X pins H b ∧ b < s.heap.objs.size) → ZSt z TI TO i1 i2 l1 l2 S i s.heap → s.heap.get? S = some { cls := .type "list", dict := none, data := .seq acc c, slots := #[] } → Prs H xs ys i acc ps →
      (∀ s' H' acc' ps' c', Inv X pins σ H' s' → Same H H' → s'.heap.get? S = some { cls := .type "list", dict := none, data := .seq acc' c', slots := #[] } → Prs H' xs ys xs.length acc' ps' → R (.ok (.ret res)) s') →
      codeAny (model X.prog X.w) A (.builtin "list.extend.loop" ⟨[.ref S, .ref z, res], []⟩) R s := by
  have nSz : S ≠ z := fun e => nS (by simp [e])
  have nSTI : S ≠ TI := fun e => nS (by simp [e])
  have nSTO : S ≠ TO := fun e => nS (by simp [e])
  have nS1 : S ≠ i1 := fun e => nS (by simp [e])
  have nS2 : S ≠ i2 := fun e => nS (by simp [e])
  have nSl1 : S ≠ l1 := fun e => nS (by simp [e])
  have nSl2 : S ≠ l2 := fun e => nS (by simp [e])
  have at4 : ∀ {c : Addr}, c ∉ [S, z, TO, i1, i2] → c ≠ S ∧ c ≠ z ∧ c ≠ TO ∧ c ≠ i1 ∧ c ≠ i2 := fun h => by simpa using h
  intro k
  induction k with
  | zero =>
    intro i s H acc ps c hk hi I q1 q2 hf st hS P hR
    have hin : i = xs.length := by omega
    subst hin
    refine codeAny_builtin F.entry_extend_loop ?_
    rw [Around.under_plainId F.plain_extend_loop _]
    show wpAny _ A.in1 (pyNext (.ref z) >>= _) _ _ s
    obtain ⟨its, rv, lv, _⟩ := I.list q1
    obtain ⟨its2, rv2, lv2, _⟩ := I.list q2
    have e1 := rv.length
    have fin : its.toArray[xs.length]? = none ∨ its2.toArray[xs.length]? = none := .inl (by simp; omega)
    have over : ∀ h' : Heap, (∀ c o, c ≠ z → c ≠ TO → c ≠ i1 → c ≠ i2 → s.heap.get? c = some o → h'.get? c = some o) → R (.ok (.ret res)) { s with heap := h' } := fun h' hk' =>
      hR _ H acc ps c (I.turnedL (t' := s.toks) (ch := [S, z, TO, i1, i2]) (fun b o hb e => hk' b o (at4 hb).2.1 (at4 hb).2.2.1 (at4 hb).2.2.2.1 (at4 hb).2.2.2.2 e) fun b hb => (hf b hb).1) (Same.refl _) (hk' _ _ nSz nSTO nS1 nS2 hS) P
    rcases st.st with ⟨hz, a, b, hTO⟩ | ⟨T, f, oT, hz, hT, r1, r2, r3, r4⟩
    · refine wpAny_bind (wpAny_pyNext_zip_end hn D hz st.ti hTO st.h1 st.h2 lv.isList lv2.isList fin fun h' hk' => ?_)
      exact wpAny_pure (over h' hk')
    · refine wpAny_bind (wpAny_pyNext_zip_end_held hn D hz hT st.ti st.h1 st.h2 lv.isList lv2.isList fin fun h' hk' => ?_)
      exact wpAny_pure (over h' fun c o n1 _ n3 n4 e => hk' c o n1 n3 n4 e)
  | succ k ih =>
    intro i s H acc ps c hk hi I q1 q2 hf st hS P hR
    have hlt : i < xs.length := by omega
    refine codeAny_builtin F.entry_extend_loop ?_
    rw [Around.under_plainId F.plain_extend_loop _]
    show wpAny _ A.in1 (pyNext (.ref z) >>= _) _ _ s
    obtain ⟨its, rv, lv, _⟩ := I.list q1
    obtain ⟨its2, rv2, lv2, _⟩ := I.list q2
    have hx : xs[i]? = some xs[i] := List.getElem?_eq_getElem hlt
    have hy : ys[i]? = some (ys[i]'(by omega)) := List.getElem?_eq_getElem (by omega)
    obtain ⟨u, hu, ru⟩ := rv.get hx
    obtain ⟨v, hv, rv'⟩ := rv2.get hy
    have hu : its.toArray[i]? = some u := by simpa using hu
    have hv : its2.toArray[i]? = some v := by simpa using hv
    generalize xs[i] = x at hx ru
    generalize ys[i]'(by omega) = y at hy rv'
    have nT : H s.heap.objs.size = none := I.hok.fresh (Nat.le_refl _)
    have go : ∀ h' : Heap, IsPair h' s.heap.objs.size u v → h'.objs.size = s.heap.objs.size + 1 → (∀ c o, c ≠ z → c ≠ TO → c ≠ i1 → c ≠ i2 → s.heap.get? c = some o → h'.get? c = some o) → ZSt z TI TO i1 i2 l1 l2 S (i + 1) h' →
        codeAny (model X.prog X.w) A (.builtin "list.extend.loop" ⟨[.ref S, .ref z, res], []⟩) R { s with heap := h'.update S (Obj.mapSeq (·.push (.ref s.heap.objs.size))) } := by
      intro h' tp sz hk' st'
      have hS' := hk' S _ nSz nSTO nS1 nS2 hS
      have off : ∀ b o, b ≠ S → h'.get? b = some o → (h'.update S (Obj.mapSeq (·.push (.ref s.heap.objs.size)))).get? b = some o := fun b o n e => (Heap.get?_update_other _ _ (Ne.symm n)).trans e
      have lt : ∀ b ∈ [S, z, TO, i1, i2], b ≠ s.heap.objs.size := fun b hb => Nat.ne_of_lt (hf b hb).2
      have nTS : s.heap.objs.size ≠ S := (lt S (by simp)).symm
      have new : ObjOk X.prog X.w (upd H s.heap.objs.size (.tup [x, y])) (h'.update S (Obj.mapSeq (·.push (.ref s.heap.objs.size)))) s.heap.objs.size (.tup [x, y]) :=
        ⟨by show 2 ≤ sizeLine; decide, [u, v], .cons ru (.cons rv' .nil), ⟨_, off _ _ nTS tp, rfl, _, rfl⟩⟩
      have I' := I.turnedNew (t' := s.toks) (ch := [S, z, TO, i1, i2]) (fun b o hb e => off b o (at4 hb).1 (hk' b o (at4 hb).2.1 (at4 hb).2.2.1 (at4 hb).2.2.2.1 (at4 hb).2.2.2.2 e)) (fun b hb => (hf b hb).1) (Nat.le_refl _) new
      have sm : Same H (upd H s.heap.objs.size (.tup [x, y])) := same_newZ nT
      refine ih (i + 1) _ _ (acc.push (.ref s.heap.objs.size)) (ps ++ [s.heap.objs.size]) _ (by omega) hlt I' (q1.mvS sm) (q2.mvS sm) (fun b hb => ⟨FpOk.new (hf b hb).1 (lt b hb), ?_⟩) ⟨off _ _ nSTI.symm st'.ti, st'.h1.at fun o e => off _ _ nS1.symm e, st'.h2.at fun o e => off _ _ nS2.symm e, ?_⟩ (Heap.get?_update_self _ hS' rfl) (P.more nT hx hy) fun s' H' acc' ps' c' I2 s2 g2 P2 => hR s' H' acc' ps' c' I2 (sm.trans s2) g2 P2
      · have := (hf b hb).2
        show b < (h'.update S _).objs.size
        rw [Heap.size_update, sz]
        exact Nat.lt_succ_of_lt this
      · rcases st'.st with ⟨hz, a, b, hTO⟩ | ⟨T, f, oT, hz, hT, r1, r2, r3, r4⟩
        · exact .inl ⟨off _ _ nSz.symm hz, a, b, off _ _ nSTO.symm hTO⟩
        · exact .inr ⟨T, f, oT, off _ _ nSz.symm hz, off _ _ r4 hT, r1, r2, r3, r4⟩
    have push : ∀ h' : Heap, IsPair h' s.heap.objs.size u v → h'.objs.size = s.heap.objs.size + 1 → (∀ c o, c ≠ z → c ≠ TO → c ≠ i1 → c ≠ i2 → s.heap.get? c = some o → h'.get? c = some o) → ZSt z TI TO i1 i2 l1 l2 S (i + 1) h' →
        True := fun _ _ _ _ _ => trivial
    have ltz : ∀ {c o}, s.heap.get? c = some o → s.heap.objs.size ≠ c := fun e => Nat.ne_of_gt (Heap.lt_size e)
    have n1 : s.heap.objs.size ≠ i1 := let ⟨_, e, _⟩ := st.h1; ltz e
    have n2 : s.heap.objs.size ≠ i2 := let ⟨_, e, _⟩ := st.h2; ltz e
    rcases st.st with ⟨hz, a, b, hTO⟩ | ⟨T, f, oT, hz, hT, r1, r2, r3, r4⟩
    · refine wpAny_bind (wpAny_pyNext_zip_item D hz st.ti hTO st.h1 st.h2 lv.isList lv2.isList hu hv fun h' a1 a2 a3 a4 a5 a6 hk' => ?_)
      show wpAny _ A.in1 (updateSeq S (·.push (.ref s.heap.objs.size)) >>= _) _ _ _
      refine wpAny_bind ?_
      refine wpAny_updateSeq (hk' S _ nSz nSTO nS1 nS2 hS) rfl (wpAny_pure ⟨plainId_quiet F.plain_extend_loop _, go h' a5 a6 hk' ⟨hk' _ _ D.TIz D.TITO D.TIi1 D.TIi2 st.ti, a3, a4, .inr ⟨s.heap.objs.size, false, _, a1, a5, ltz hz, n1, n2, ltz hS⟩⟩⟩) (by rw [P.sz]; exact Nat.le_trans (show i ≤ 1000 by omega) (by decide)) (by show (acc.push _).size ≤ sizeLine + 1; rw [Array.size_push, P.sz]; exact Nat.le_trans (show i + 1 ≤ 1001 by omega) (by decide))
    · refine wpAny_bind (wpAny_pyNext_zip_item_held D hz hT st.ti st.h1 st.h2 lv.isList lv2.isList hu hv fun h' a1 a3 a4 a5 a6 hk' => ?_)
      have hk2 : ∀ c o, c ≠ z → c ≠ TO → c ≠ i1 → c ≠ i2 → s.heap.get? c = some o → h'.get? c = some o := fun c o n1 _ n3 n4 e => hk' c o n1 n3 n4 e
      show wpAny _ A.in1 (updateSeq S (·.push (.ref s.heap.objs.size)) >>= _) _ _ _
      refine wpAny_bind ?_
      refine wpAny_updateSeq (hk2 S _ nSz nSTO nS1 nS2 hS) rfl (wpAny_pure ⟨plainId_quiet F.plain_extend_loop _, go h' a5 a6 hk2 ⟨hk' _ _ D.TIz D.TIi1 D.TIi2 st.ti, a3, a4, .inr ⟨T, true, oT, a1, hk' _ _ r1 r2 r3 hT, r1, r2, r3, r4⟩⟩⟩) (by rw [P.sz]; exact Nat.le_trans (show i ≤ 1000 by omega) (by decide)) (by show (acc.push _).size ≤ sizeLine + 1; rw [Array.size_push, P.sz]; exact Nat.le_trans (show i + 1 ≤ 1001 by omega) (by decide))
theorem collect_zip {A : Around} {E : Value → Shared → Prop} {Q : List Value → Shared → Prop} {s : Shared} {H : Hp} (hn : A.handled = none) (D : ZipApart z TI TO i1 i2 l1 l2) (hl : xs.length = ys.length) (hm : xs.length ≤ 1000) (I : Inv X pins σ H s) (q1 : SqL X.K H l1 xs) (q2 : SqL X.K H l2 ys)
    (hf : ∀ b ∈ [z, TO, i1, i2], FpOk X pins H b) (hz : IsZip s.heap z TI TO .none) (hTI : IsPair s.heap TI (.ref i1) (.ref i2)) (hTO : ∃ a b, IsPair s.heap TO a b) (h1 : s.heap.IsListIter i1 l1 0) (h2 : s.heap.IsListIter i2 l2 0)
    (hQ : ∀ s' H' acc ps, Inv X pins σ H' s' → Same H H' → Prs H' xs ys xs.length acc ps → Q acc.toList s') : wpAny (model X.prog X.w) A (collect (.ref z)) Q E s := by
  have lt : ∀ {b : Addr} {o : Obj}, s.heap.get? b = some o → b ≠ s.heap.objs.size := fun e => Nat.ne_of_lt (Heap.lt_size e)
  obtain ⟨a, b, hTO⟩ := hTO
  have n1 : i1 ≠ s.heap.objs.size := let ⟨_, e, _⟩ := h1; lt e
  have n2 : i2 ≠ s.heap.objs.size := let ⟨_, e, _⟩ := h2; lt e
  obtain ⟨its, rv, lv, _⟩ := I.list q1
  obtain ⟨its2, rv2, lv2, _⟩ := I.list q2
  have m1 : l1 ≠ s.heap.objs.size := let ⟨_, e, _⟩ := lv.isList; lt e
  have m2 : l2 ≠ s.heap.objs.size := let ⟨_, e, _⟩ := lv2.isList; lt e
  have nS : s.heap.objs.size ∉ [z, TI, TO, i1, i2, l1, l2] := fun hm => by
    simp only [List.mem_cons, List.not_mem_nil, or_false] at hm
    rcases hm with e | e | e | e | e | e | e
    · exact lt hz e.symm
    · exact lt hTI e.symm
    · exact lt hTO e.symm
    · exact n1 e.symm
    · exact n2 e.symm
    · exact m1 e.symm
    · exact m2 e.symm
  unfold collect
  refine wpAny_bind (wpAny_runValue (codeAny_builtin F.entry_proto_collect ?_))
  rw [Around.under_plainId F.plain_proto_collect _]
  show wpAny _ A.in1 (newList [] >>= fun l' => again (.builtin "list.__iadd__" ⟨[l', .ref z], []⟩)) _ _ s
  refine wpAny_bind (wpAny_newObj_type ?_)
  refine wpAny_pure ⟨plainId_quiet F.plain_list_iadd _, codeAny_builtin F.entry_list_iadd ?_⟩
  rw [Around.under_plainId F.plain_list_iadd _]
  have hS₁ : (s.heap.push { cls := .type "list", data := .seq ([] : List Value).toArray }).get? s.heap.objs.size = some { cls := .type "list", data := .seq ([] : List Value).toArray } := Heap.get?_push_size _ rfl
  have kp : ∀ b o, s.heap.get? b = some o → (s.heap.push { cls := .type "list", data := .seq ([] : List Value).toArray }).get? b = some o := fun b o e => Heap.get?_push_of_some _ e
  have hT : ({ s with heap := s.heap.push { cls := .type "list", data := .seq ([] : List Value).toArray } } : Shared).TypeIs (.ref z) "zip" := ⟨_, kp _ _ hz, rfl⟩
  have same : Builtin.List.listSameRef (.ref s.heap.objs.size) (.ref z) = false := by simp [Builtin.List.listSameRef, (lt hz).symm]
  have I1 : Inv X pins σ H { s with heap := s.heap.push { cls := .type "list", data := .seq ([] : List Value).toArray } } := I.kept (t' := s.toks) kp
  show wpAny _ A.in1 (Builtin.List.listExtendWith (.ref s.heap.objs.size) (.ref z) (.ref s.heap.objs.size)) _ _ _
  unfold Builtin.List.listExtendWith
  refine wpAny_bind (wpAny_typeOf hT ?_)
  rw [if_neg (by rw [same]; decide)]
  refine wpAny_bind (wpAny_pyIter_zip (s := { s with heap := s.heap.push { cls := .type "list", data := .seq ([] : List Value).toArray } }) (kp _ _ hz) ?_)
  refine wpAny_bind (wpAny_holding ?_)
  unfold Builtin.List.listLengthHint
  refine wpAny_bind (wpAny_specialOf hT nolen_zip ?_)
  show wpAny _ A.in1 (specialOf (Value.ref z) (Str.ofString "__length_hint__") >>= _) _ _ _
  refine wpAny_bind (wpAny_specialOf hT nohint_zip ?_)
  refine wpAny_pure ?_
  show wpAny _ A.in1 (rule "list.extend.makes-room" >>= fun _ => Builtin.List.listTouch (.ref s.heap.objs.size) >>= fun _ =>
    again (.builtin "list.extend.loop" ⟨[.ref s.heap.objs.size, .ref z, .ref s.heap.objs.size], []⟩)) _ _ _
  refine wpAny_bind (wpAny_rule ?_)
  refine wpAny_bind ?_
  show wpAny _ A.in1 (updateSeq s.heap.objs.size (·.push .none) >>= fun _ => updateSeq s.heap.objs.size (·.pop)) _ _ _
  refine wpAny_bind (wpAny_updateSeq hS₁ rfl ?_)
  have hS₂ := Heap.get?_update_self (Obj.mapSeq (·.push Value.none)) hS₁ rfl
  refine wpAny_updateSeq hS₂ rfl ?_
  have hS₃ := Heap.get?_update_self (Obj.mapSeq (·.pop)) hS₂ rfl
  have kp2 : ∀ b o, s.heap.get? b = some o →
      (((s.heap.push { cls := .type "list", data := .seq ([] : List Value).toArray }).update s.heap.objs.size (Obj.mapSeq (·.push Value.none))).update s.heap.objs.size (Obj.mapSeq (·.pop))).get? b = some o :=
    fun b o e => (Heap.get?_update_other _ _ (Ne.symm (lt e))).trans ((Heap.get?_update_other _ _ (Ne.symm (lt e))).trans (kp b o e))
  have I2 := I.kept (t' := s.toks) kp2
  refine wpAny_pure ⟨plainId_quiet F.plain_extend_loop _, zip_loop (X := X) (pins := pins) (σ := σ) hn D nS hl hm _ xs.length 0 _ H _ [] _ rfl (Nat.zero_le _) I2 q1 q2 (fun b hb => ?_) ⟨kp2 _ _ hTI, h1.at fun o e => kp2 _ _ e, h2.at fun o e => kp2 _ _ e, .inl ⟨kp2 _ _ hz, a, b, kp2 _ _ hTO⟩⟩ hS₃ ⟨rfl, rfl, fun j x y p _ _ e => by simp at e⟩ fun s' H' acc' ps' c' I' s2 hS' P => ?_⟩
  · have sz := Heap.lt_size hS₃
    rcases List.mem_cons.mp hb with rfl | hb
    · exact ⟨I.fpOk (Nat.le_refl _) (I.hok.fresh (Nat.le_refl _)), sz⟩
    · refine ⟨hf b hb, Nat.lt_trans ?_ sz⟩
      simp only [List.mem_cons, List.not_mem_nil, or_false] at hb
      rcases hb with rfl | rfl | rfl | rfl
      · exact Heap.lt_size hz
      · exact Heap.lt_size hTO
      · obtain ⟨_, e, _⟩ := h1
        exact Heap.lt_size e
      · obtain ⟨_, e, _⟩ := h2
        exact Heap.lt_size e
  · show wpAny _ A (load s.heap.objs.size >>= _) _ _ s'
    refine wpAny_bind (wpAny_load hS' ?_)
    exact wpAny_pure (hQ s' H' acc' ps' I' s2 P)
theorem call_tuple_zip {A : Around} {E : Value → Shared → Prop} {Q : Value → Shared → Prop} {s : Shared} {H : Hp} (hn : A.handled = none) (D : ZipApart z TI TO i1 i2 l1 l2) (hl : xs.length = ys.length) (hm : xs.length ≤ 1000) (I : Inv X pins σ H s) (q1 : SqL X.K H l1 xs) (q2 : SqL X.K H l2 ys)
    (hf : ∀ b ∈ [z, TO, i1, i2], FpOk X pins H b) (hz : IsZip s.heap z TI TO .none) (hTI : IsPair s.heap TI (.ref i1) (.ref i2)) (hTO : ∃ a b, IsPair s.heap TO a b) (h1 : s.heap.IsListIter i1 l1 0) (h2 : s.heap.IsListIter i2 l2 0)
    (hQ : ∀ s' H' acc ps, Inv X pins σ H' s' → Same H H' → Prs H' xs ys xs.length acc ps → Q (.ref s'.heap.objs.size) { s' with heap := s'.heap.push { cls := .type "tuple", data := .seq acc } }) : wpAny (model X.prog X.w) A (call (.type "tuple") [.ref z]) Q E s := by
  have made : codeAny (model X.prog X.w) A.in1 (.call (.builtin "tuple.__new__") ⟨[.type "tuple", .ref z], []⟩) (wants (fun obj s₁ => s₁.TypeIs obj "tuple" ∧ Q obj s₁) E) s := by
    refine codeAny_of_tree ?_
    show wpAny _ A.in1.in1 (do checkBuiltinCall "tuple.__new__" ⟨[.type "tuple", .ref z], []⟩; again (.builtin "tuple.__new__" ⟨[.type "tuple", .ref z], []⟩)) _ _ s
    refine wpAny_bind (wpAny_of_eq (F.newCall_tuple_1 _) (wpAny_pure ⟨plainId_quiet F.plain_tuple_new _, codeAny_builtin F.entry_tuple_new ?_⟩))
    rw [Around.under_plainId F.plain_tuple_new _]
    have hsub := sub_tuple_self
    have hinit := init_tuple_lookup
    have hmh := madeHere_tuple
    have hTz : s.TypeIs (.ref z) "zip" := ⟨_, hz, rfl⟩
    have hh1 : A.in1.in1.handled = none := hn
    wp_walk using wpAny_typeOf hTz, collect_zip (A := A.in1.in1) (X := X) (pins := pins) (σ := σ) hh1 D hl hm I q1 q2 hf hz hTI hTO h1 h2
    intro s' H' acc ps I' s2 P
    show wpAny _ _ (Builtin.Tuple.tupleExact acc.toList.toArray >>= fun v => ret v) _ _ _
    unfold Builtin.Tuple.tupleExact
    refine wpAny_bind (wpAny_newObj_type ?_ (by show acc.toList.toArray.size ≤ sizeLine; simp only [Array.toArray_toList]; rw [P.sz]; exact Nat.le_trans hm (by decide)))
    refine wpAny_pure ?_
    have e : acc.toList.toArray = acc := by simp
    rw [e]
    exact ⟨⟨_, Heap.get?_push_size _ rfl, rfl⟩, hQ s' H' acc ps I' s2 P⟩
  refine callType_codes (Q₁ := fun obj s₁ => s₁.TypeIs obj "tuple" ∧ Q obj s₁) F.called_tuple (F.typeCall_tuple_1 _) F.entry_object_init made fun obj s₁ h₁ => ?_
  exact ⟨h₁.1, F.args_object_init_2 obj _, object_init_meets F.called_tuple.init.lookup F.called_tuple.made (by decide) _ _ A.in1 _ s₁ ⟨h₁.1, rfl, h₁.2⟩⟩
end
def tTupZip (K : PySem.W.Frag) (ta : TA) : TE := fun σ H Q => ta σ H fun vs H1 => ∃ (a b : Addr) (xs ys : List V), vs = [.ref a, .ref b] ∧ SqL K H1 a xs ∧ SqL K H1 b ys ∧ xs.length = ys.length ∧ xs.length ≤ 1000 ∧
  ∀ (t : Addr) (ps : List Addr) (H' : Hp), Same H1 H' → ps.length = xs.length → (∀ (i : Nat) (x y : V) (p : Addr), xs[i]? = some x → ys[i]? = some y → ps[i]? = some p → H' p = some (.tup [x, y])) → H' t = some (.tup (ps.map V.ref)) → Q (.ref t) H'
theorem vals_refs : ∀ ps : List Addr, Vals (ps.map V.ref) (ps.map Value.ref)
  | [] => .nil
  | _ :: r => .cons rfl (vals_refs r)
theorem pe_tupZip {X : Cx} {e e2 : Expr} {ta : TA} {p p2 pos pos2 : Pos} (hc : X.calm = true) (hg : Gl X "tuple") (hm : X.mg "tuple" = none) (hg2 : Gl X "zip") (hm2 : X.mg "zip" = none) (ha : PA X [e, e2] ta)
    (hs : starEach [e, e2] X.env = (false, eval e X.env) :: starEach [e2] X.env := by rfl) (hpl : (backTo pos2 (starEach [e2] X.env)).any (·.1) = false := by rfl)
    (hs1 : starEach [.Call (.Name "zip" p2) [e, e2] [] pos2] X.env = (false, eval (.Call (.Name "zip" p2) [e, e2] [] pos2) X.env) :: starEach [] X.env := by rfl) :
    PE X (.Call (.Name "tuple" p) [.Call (.Name "zip" p2) [e, e2] [] pos2] [] pos) (tTupZip X.K ta) := by
  refine ⟨fun pins s σ H Q I h => ?_⟩
  refine Call_ (ld_blt I hg hm PyProof.Rows.boot_tuple ?_)
  refine PyProof.Rows.callWith_type1 (PyProof.Rows.args_cons ?_ hs1) hs1 rfl
  refine Call_ (ld_blt I hg2 hm2 PyProof.Rows.boot_zip (PyProof.Rows.callWith_type1 (thn (ha.run pos2 pins s σ H _ I h) fun us s1 ⟨vs, H1, I1, r1, q1⟩ => ?_) hs hpl))
  obtain ⟨a, b, xs, ys, ex, q1, q2, hl, hm', q⟩ := q1
  subst ex
  cases r1 with
  | cons r rr =>
    cases rr with
    | cons r' rr =>
      cases rr
      cases r
      cases r'
      obtain ⟨its, rv, p1, _⟩ := I1.list q1
      obtain ⟨its2, rv2, p2', _⟩ := I1.list q2
      refine call_zip_2 p1.isList p2'.isList fun h' hz hTI hTO h1 h2 hsz hk => ?_
      have I2 : Inv X pins σ H1 { s1 with heap := h' } := I1.kept (t' := s1.toks) hk
      refine PyProof.Rows.args_nil ?_
      refine call_tuple_zip (X := X) (pins := pins) (σ := σ) (s := { s1 with heap := h' }) (I1.ok.hd hc) (PySem.W.ktu_apart s1.heap.objs.size a b p1.lt p2'.lt) hl hm' I2 q1 q2 (fun c hcm => ?_) hz hTI ⟨_, _, hTO⟩ h1 h2 fun s' H' acc ps I' sm P => ?_
      · have e' : c = s1.heap.objs.size + 4 ∨ c = s1.heap.objs.size + 3 ∨ c = s1.heap.objs.size ∨ c = s1.heap.objs.size + 1 := by simpa using hcm
        have hle : s1.heap.objs.size ≤ c := by
          rcases e' with z | z | z | z
          · rw [z]; exact Nat.le_add_right _ _
          · rw [z]; exact Nat.le_add_right _ _
          · rw [z]; exact Nat.le_refl _
          · rw [z]; exact Nat.le_add_right _ _
        exact I1.fpOk hle (I1.hok.fresh hle)
      · have eacc : acc = (ps.map Value.ref).toArray := by rw [← P.acc, Array.toArray_toList]
        have new : ObjOk X.prog X.w (upd H' s'.heap.objs.size (.tup (ps.map V.ref))) (s'.heap.push { cls := .type "tuple", data := .seq acc }) s'.heap.objs.size (.tup (ps.map V.ref)) :=
          ⟨by rw [List.length_map, P.len]; exact Nat.le_trans hm' (by decide), ps.map Value.ref, vals_refs ps, ⟨_, Heap.get?_push_size _ rfl, rfl, _, by rw [eacc]⟩⟩
        have nT : H' s'.heap.objs.size = none := I'.hok.fresh (Nat.le_refl _)
        have s3 := same_newZ (o := .tup (ps.map V.ref)) nT
        refine ⟨.ref s'.heap.objs.size, _, I'.laid (t' := s'.toks) (fun b o e => Heap.get?_push_of_some _ e) (Nat.le_refl _) new, rfl, ?_⟩
        exact q _ ps _ (sm.trans s3) P.len (fun i x y p e1 e2 e3 => s3 _ _ (P.pr i x y p e1 e2 e3)) upd_same
end OGX
set_option Elab.async false
set_option linter.all false
set_option maxRecDepth 100000
set_option maxHeartbeats 8000000
namespace OG
open PySem PySem.Spec PyProof.Rows L2 OGX
theorem un65 {k : Nat} {A : Around} (r : Room k A) : A.units + 65 < cLine := by
  have := r.un
  omega
def wsl (fs : List (Fac × Str)) : List Str := (fs.map fun f => [facT f.1, f.2]).flatten
theorem wsl_len : ∀ fs : List (Fac × Str), (wsl fs).length = 2 * fs.length
  | [] => rfl
  | f :: r => by
    show ([facT f.1, f.2] ++ wsl r).length = 2 * (r.length + 1)
    rw [List.length_append, wsl_len r]
    show 2 + _ = _
    omega
theorem wsl_ev : ∀ (fs : List (Fac × Str)) (k : Nat), (wsl fs)[2 * k]? = fs[k]?.map fun f => facT f.1
  | [], k => by simp [wsl]
  | f :: r, 0 => rfl
  | f :: r, k + 1 => wsl_ev r k
theorem wsl_od : ∀ (fs : List (Fac × Str)) (k : Nat), (wsl fs)[1 + 2 * k]? = fs[k]?.map fun f => f.2
  | [], k => by simp [wsl]
  | f :: r, 0 => rfl
  | f :: r, k + 1 => by
    have := wsl_od r k
    show ([facT f.1, f.2] ++ wsl r)[1 + 2 * (k + 1)]? = _
    rw [List.getElem?_append_right (by show 2 ≤ _; omega), show 1 + 2 * (k + 1) - ([facT f.1, f.2] : List Str).length = 1 + 2 * k by show 1 + 2 * (k + 1) - 2 = _; omega]
    exact this
theorem range_all {α : Type} : ∀ l : List α, (List.range l.length).filterMap (fun k => l[k]?) = l
  | [] => rfl
  | x :: r => by
    rw [List.length_cons, List.range_succ_eq_map, List.filterMap_cons]
    show x :: ((List.range r.length).map Nat.succ).filterMap _ = _
    rw [List.filterMap_map]
    exact congrArg (x :: ·) (range_all r)
theorem step_ev (fs : List (Fac × Str)) : stepA ((wsl fs).map V.str) 0 = (fs.map fun f => facT f.1).map V.str := by
  unfold stepA
  rw [List.length_map, wsl_len, show (2 * fs.length - 0 + 1) / 2 = ((fs.map fun f => facT f.1).map V.str).length by rw [List.length_map, List.length_map]; omega]
  rw [show (fun k => ((wsl fs).map V.str)[0 + 2 * k]?) = fun k => ((fs.map fun f => facT f.1).map V.str)[k]? from funext fun k => by
    rw [Nat.zero_add, List.getElem?_map, wsl_ev, List.getElem?_map, List.getElem?_map]]
  exact range_all _
theorem step_od (fs : List (Fac × Str)) : stepA ((wsl fs).map V.str) 1 = (fs.map fun f => f.2).map V.str := by
  unfold stepA
  rw [List.length_map, wsl_len, show (2 * fs.length - 1 + 1) / 2 = ((fs.map fun f => f.2).map V.str).length by rw [List.length_map, List.length_map]; omega]
  rw [show (fun k => ((wsl fs).map V.str)[1 + 2 * k]?) = fun k => ((fs.map fun f => f.2).map V.str)[k]? from funext fun k => by
    rw [List.getElem?_map, wsl_od, List.getElem?_map, List.getElem?_map]]
  exact range_all _
theorem facs_td {K : PySem.W.Frag} {H : Hp} : ∀ {as : List Addr} {fs : List (Fac × Str)}, as.length = fs.length → (∀ (j : Nat) (a : Addr) (f : Fac × Str), as[j]? = some a → fs[j]? = some f → H a = some (.tup [.int f.1.1, .int f.1.2])) →
    TdAll K H (as.map V.ref) (fs.map fun f => facD f.1)
  | [], [], _, _ => .nil
  | [], f :: r, h, _ => by cases h
  | a :: r, [], h, _ => by cases h
  | a :: r, f :: fs, h, g => .cons (.tup (SqT.of (g 0 a f rfl rfl)) (.cons (.int _) (.cons (.int _) .nil))) (facs_td (Nat.succ.inj h) fun j b e h1 h2 => g (j + 1) b e h1 h2)
theorem facs_shaped (fs : List (Fac × Str)) : SeqAt.shaped (.list (fs.map fun f => facD f.1)) = true := by
  have h1 : PyData.canLayAll0 (fs.map fun f => facD f.1) = true := lay_all fun d hd => by
    obtain ⟨f, _, rfl⟩ := List.mem_map.mp hd
    simp [facD, PyData.canLay0, PyData.canLayAll0]
  have h2 : PyData.depthAll (fs.map fun f => facD f.1) ≤ 1 := dep_all fun d hd => by
    obtain ⟨f, _, rfl⟩ := List.mem_map.mp hd
    simp [facD, PyData.depth, PyData.depthAll]
  unfold SeqAt.shaped
  rw [Bool.and_eq_true]
  refine ⟨by simp only [PyData.canLay0]; exact h1, decide_eq_true ?_⟩
  simp only [PyData.depth]
  omega
theorem facs_none : ∀ fs : List (Fac × Str), ((fs.map fun f => facD f.1).any fun z => PyData.eqv z .none) = false
  | [] => rfl
  | f :: r => by
    rw [List.map_cons, List.any_cons, facs_none r]
    simp [facD, PyData.eqv]
theorem shaped_none : SeqAt.shaped .none = true := by
  simp [SeqAt.shaped, PyData.canLay0, PyData.depth]
section
variable {P : Program} {w : World} {K : PySem.W.Frag} {mg : Str → Option Value} {base : Heap}
def wsAdd : Frm → List Str
  | .add fs => wsl fs
  | _ => []
def isAdd (_ : Kn) : Frm → Prop
  | .add _ => True
  | _ => False
theorem ok_read_add (T : Txt K mg) : FnOk P w K mg base CX0 5 T.f_read_add T.fd_read_add ["words", "gates"] (spRdG K isAdd wsAdd) := by
  refine T.F_read_add.ok sc_read_add (fun vs H Q E h => ?_) (fun cdv A outer s H vs Q E hr h => ?_)
  · obtain ⟨l, kd, kn, kvs, f, rfl, _⟩ := h
    rfl
  · obtain ⟨l, kd, kn, kvs, f, rfl, gk, hkn, hko, hf, ok, hL, q⟩ := h
    refine ⟨_, (pss_cons (ps_setLc (i := 2) (own := [("word", 5)]) (g := gName 5) (by rfl) sc_read_add.nd rfl rfl (sw_true rfl rfl rfl (by decide +kernel)) (pi_list (OGX.pe_stepL (c := 0) (pv 0))) (blkOk_by (own := [("word", 5)]) (by rfl)) (fun _ _ _ _ _ => (pg_name (i := 5) sc_read_add.nd rfl (Or.inl rfl))) (fun _ _ _ _ _ => pts_nil) (fun _ _ _ _ _ => (pe_call (ok_factor_of T) (hr.mono (by decide)) (by rfl) T.g_factor_of T.F_factor_of.kp T.b_factor_of .nil pass0 (pa_cons (pv 5) pa_nil))))
  (pss_cons (ps_set (i := 3) sc_read_add.nd rfl (Or.inl rfl) (OGX.pe_stepL (c := 1) (pv 0)))
  (pss_cons (ps_if (PW.pt (pw_or (pt_not (pt_truth (pv 3) (by intro _; rfl))) (pw_or (pt_cmpR op_ne (pe_callB call_len_seq (by rfl) T.n_len PySem.boot_len (pa_cons (pv 2) pa_nil)) (pe_callB call_len_seq (by rfl) T.n_len PySem.boot_len (pa_cons (pv 3) pa_nil)) (nomark _)) (pw_or1 (pt_cmpR (op_inD (un65 hr)) pe_non (pv 2) rfl))))) (pss_one (ps_ret pe_non)) pss_nil)
  (pss_cons (ps_if (pt_not (pt_val (pe_callB (cr_all rfl) (by rfl) T.n_all (by decide +kernel) (pa_cons (pe_lc (own := [("name", 6)]) (g := gName 6) (by rfl) sc_read_add.nd (pi_list (pv 3)) (blkOk_by (own := [("name", 6)]) (by rfl)) (fun _ _ _ _ _ => (pg_name (i := 6) sc_read_add.nd rfl (Or.inl rfl))) (fun _ _ _ _ _ => pts_nil) (fun _ _ _ _ _ => (pe_cmp (pc_din (hu_of hr) (pv 6) (pv 1)) rfl))) pa_nil)))) (pss_one (ps_ret pe_non)) pss_nil)
  (pss_cons (ps_set (i := 4) sc_read_add.nd rfl (Or.inr rfl) (pe_dget (hu_of hr) (pv 1) (pe_ix ix_list (pv 3) pe_int (fun _ _ => rfl)) (fun _ _ => rfl)))
  (pss_cons (ps_if (pt_not (pt_val (pe_callB (cr_all rfl) (by rfl) T.n_all (by decide +kernel) (pa_cons (pe_lc (own := [("name", 6)]) (g := gName 6) (by rfl) sc_read_add.nd (pi_list (pv 3)) (blkOk_by (own := [("name", 6)]) (by rfl)) (fun _ _ _ _ _ => (pg_name (i := 6) sc_read_add.nd rfl (Or.inl rfl))) (fun _ _ _ _ _ => pts_nil) (fun _ _ _ _ _ => (pe_cmpR (op_eqDK K hr.units) (pe_dget (hu_of hr) (pv 1) (pv 6) (fun _ _ => rfl)) (pv 4) (nomark _)))) pa_nil)))) (pss_one (ps_ret pe_non)) pss_nil)
  (pss_one (ps_ret (pe_tup (pa_cons pe_str (pa_cons (OGX.pe_tupZip rfl (by rfl) T.n_tuple (by rfl) T.n_zip (pa_cons (pv 2) (pa_cons (pv 3) pa_nil))) (pa_cons (pv 4) pa_nil)))))))))))), ?_⟩
    have wide : ∀ {n : Nat}, n ≤ 1000 → n ≤ sizeLine := fun h => Nat.le_trans h (by decide)
    cases f with
    | one gs => exact ok.elim
    | road k g h => exact ok.elim
    | prod a b => exact ok.elim
    | close g a => exact ok.elim
    | turn g h a => exact ok.elim
    | add fs =>
      have hL : SqL K H l ((wsl fs).map V.str) := hL
      obtain ⟨hn, h100, hfo, gs, hgs⟩ := hf
      have wl : ((wsl fs).map V.str).length = 2 * fs.length := by rw [List.length_map, wsl_len]
      have n1 : 1 ≤ fs.length := List.length_pos_iff.mpr hn
      refine ⟨_, rfl, l, _, rfl, hL, Nat.zero_le _, by omega, fun p0 hp0 => ?_⟩
      rw [step_ev]
      have s0 := same_new (o := .lst ((fs.map fun f => facT f.1).map V.str)) hp0
      have g0 : (upd H p0 (.lst ((fs.map fun f => facT f.1).map V.str))) p0 = some (.lst ((fs.map fun f => facT f.1).map V.str)) := upd_same
      generalize upd H p0 (.lst ((fs.map fun f => facT f.1).map V.str)) = H0 at *
      refine ⟨p0, rfl, ⟨_, SqL.of g0⟩, fun D hD => ?_⟩
      refine lc_list (K := K) (a := p0) (xs := (fs.map fun f => facT f.1).map V.str) (fun i H' => Same H0 H' ∧ ∃ as : List Addr, H' D = some (.lst (as.map V.ref)) ∧ as.length = i ∧ ∀ (j : Nat) (a : Addr) (f : Fac × Str), as[j]? = some a → fs[j]? = some f → H' a = some (.tup [.int f.1.1, .int f.1.2]))
        ⟨same_new hD, [], upd_same, rfl, fun j a f h => by simp at h⟩ (fun i H' _ ⟨s, _⟩ => SqL.of (s _ _ g0)) ?_ ?_
      · rintro i x H' hx ⟨s, as, gD, hl, ha⟩
        obtain ⟨z, hz, rfl⟩ := str_at hx
        rw [List.getElem?_map] at hz
        cases ef : fs[i]? with
        | none =>
          rw [ef] at hz
          cases hz
        | some f =>
          rw [ef] at hz
          cases Option.some.inj hz
          have hi := (List.getElem?_eq_some_iff.mp ef).1
          refine ⟨rfl, ?_⟩
          refine ⟨_, rfl, f.1, rfl, hfo f (List.mem_of_getElem? ef), fun a H2 s2 ga => ?_⟩
          have nD : a ≠ D := fun e => by
            rw [e, s2 _ _ gD] at ga
            cases ga
          refine ⟨_, s2 _ _ gD, ?_, fun b u hu => ?_, as ++ [a], ?_, by rw [List.length_append, hl]; rfl, fun j b g hj hg => ?_⟩
          · rw [List.length_map, hl]
            exact Nat.lt_of_le_of_lt (show i ≤ 100 by omega) (by decide)
          · rw [upd_ne (ne_of_none hu hD)]
            exact s2 _ _ (s _ _ hu)
          · rw [upd_same, List.map_append]
            rfl
          · by_cases e : j < as.length
            · rw [List.getElem?_append_left e] at hj
              have h1 := ha j b g hj hg
              rw [upd_ne (fun e => by
                rw [e, gD] at h1
                cases h1)]
              exact s2 _ _ h1
            · rw [List.getElem?_append_right (by omega)] at hj
              have e0 : j - as.length = 0 := by
                have := (List.getElem?_eq_some_iff.mp hj).1
                simp at this
                omega
              rw [e0] at hj
              cases Option.some.inj hj
              have ej : j = i := by omega
              rw [ej, ef] at hg
              cases Option.some.inj hg
              rw [upd_ne nD]
              exact ga
      rintro H1 ⟨s1, as, gD, hal, ha⟩
      rw [List.length_map, List.length_map] at hal
      have s01 := s0.trans s1
      refine ⟨_, rfl, l, _, rfl, SqL.ext hL s01, by omega, by omega, fun p1 hp1 => ?_⟩
      rw [step_od]
      have s2 := s01.trans (same_new (o := .lst ((fs.map fun f => f.2).map V.str)) hp1)
      have g1 : (upd H1 p1 (.lst ((fs.map fun f => f.2).map V.str))) p1 = some (.lst ((fs.map fun f => f.2).map V.str)) := upd_same
      have gD2 := same_new (o := .lst ((fs.map fun f => f.2).map V.str)) hp1 _ _ gD
      have ha2 : ∀ (j : Nat) (a : Addr) (f : Fac × Str), as[j]? = some a → fs[j]? = some f → (upd H1 p1 (.lst ((fs.map fun f => f.2).map V.str))) a = some (.tup [.int f.1.1, .int f.1.2]) := fun j a f h1 h2 => same_new hp1 _ _ (ha j a f h1 h2)
      generalize upd H1 p1 (.lst ((fs.map fun f => f.2).map V.str)) = H2 at *
      have nf : true = !((fs.map fun f => f.2).map V.str).isEmpty := by
        cases fs with
        | nil => exact absurd rfl hn
        | cons f r => rfl
      refine ⟨_, rfl, true, .inl ⟨_, SqL.of g1, nf⟩, ?_⟩
      refine iteF ?_
      refine ⟨_, rfl, D, _, rfl, .inl (SqL.of gD2), _, rfl, p1, _, rfl, .inl (SqL.of g1), rfl, _, rfl, ?_⟩
      rw [decide_eq_true (by rw [List.length_map, List.length_map, List.length_map, hal])]
      refine iteF ?_
      refine ⟨_, rfl, .none, fs.map (fun f => facD f.1), .non, .lst (SqL.of gD2) (facs_td hal ha2).dp, shaped_none, facs_shaped fs, _, rfl, ?_⟩
      rw [facs_none]
      refine iteF ?_
      have get : ∀ {H' : Hp} {f : Fac × Str}, Same H2 H' → f ∈ fs → ∃ v, DGet H' kd (.str f.2) (some v) ∧ Td K H' v (gsD gs) := fun s hf => by
        obtain ⟨v, v1, v2⟩ := hkn.get (hgs _ hf)
        exact ⟨v, .inl ⟨kvs, .inr _, .inl (s _ _ (s2 _ _ gk)), rfl, v1.symm⟩, v2.mv (Same.tk (s2.trans s))⟩
      have strZ : ∀ {x : V}, x ∈ (fs.map fun f => f.2).map V.str → ∃ f ∈ fs, x = .str f.2 := fun hx => by
        obtain ⟨z, hz, rfl⟩ := List.mem_map.mp hx
        obtain ⟨f, hf, rfl⟩ := List.mem_map.mp hz
        exact ⟨f, hf, rfl⟩
      have bools : ∀ n : List V, n.map (fun _ => V.bl true) = (n.map fun _ => true).map V.bl := fun n => by rw [List.map_map]; rfl
      have alls : ∀ n : List V, (n.map fun _ => true).all id = true := fun n => by
        induction n with
        | nil => rfl
        | cons x r ih =>
          rw [List.map_cons, List.all_cons, ih]
          rfl
      have nl : ((fs.map fun f => f.2).map V.str).length ≤ 10000 := by
        rw [List.length_map, List.length_map]
        omega
      refine ⟨_, rfl, p1, rfl, ⟨_, SqL.of g1⟩, fun D3 hD3 => ?_⟩
      refine lc_mapL (K := K) (a := p1) (xs := (fs.map fun f => f.2).map V.str) (fun _ => V.bl true) nl hD3 (SqL.of g1) (fun _ => rfl) (fun z H' Q kk => kk) (fun z H' Q hx s3 kk => ?_) (fun H3 s3 g3 => ?_)
      · obtain ⟨f, hf, rfl⟩ := strZ hx
        obtain ⟨v, v1, _⟩ := get s3 hf
        exact ⟨_, rfl, _, rfl, kd, some v, rfl, v1, kk _ (Same.refl _)⟩
      rw [bools] at g3
      refine ⟨D3, _, rfl, SqL.of g3, _, rfl, ?_⟩
      rw [alls]
      refine iteF ?_
      obtain ⟨f0, r, efs⟩ : ∃ f0 r, fs = f0 :: r := by
        cases fs with
        | nil => exact absurd rfl hn
        | cons f r => exact ⟨f, r, rfl⟩
      have h0 : f0 ∈ fs := by
        rw [efs]
        exact List.mem_cons_self
      obtain ⟨v0, v01, v02⟩ := get s3 h0
      have a0 : ((fs.map fun f => f.2).map V.str)[0]? = some (.str f0.2) := by
        rw [efs]
        rfl
      refine ⟨_, rfl, _, rfl, p1, _, 0, .str f0.2, rfl, rfl, SqL.of (s3 _ _ g1), atI_nat (j := 0) a0, kd, v0, rfl, v01, ?_⟩
      refine ⟨_, rfl, p1, rfl, ⟨_, SqL.of (s3 _ _ g1)⟩, fun D4 hD4 => ?_⟩
      refine lc_mapL (K := K) (a := p1) (xs := (fs.map fun f => f.2).map V.str) (fun _ => V.bl true) nl hD4 (SqL.of (s3 _ _ g1)) (fun _ => rfl) (fun z H' Q kk => kk) (fun z H' Q hx s4 kk => ?_) (fun H4 s4 g4 => ?_)
      · obtain ⟨f, hf, rfl⟩ := strZ hx
        obtain ⟨v, v1, v2⟩ := get (s3.trans s4) hf
        refine ⟨_, rfl, _, rfl, kd, v, rfl, v1, _, rfl, gsD gs, gsD gs, v2.dp, (v02.mv (Same.tk s4)).dp, shaped_gs (hko.at (hgs _ h0)), shaped_gs (hko.at (hgs _ h0)), ?_⟩
        rw [eqv_gs, decide_eq_true rfl]
        exact kk _ (Same.refl _)
      rw [bools] at g4
      refine ⟨D4, _, rfl, SqL.of g4, _, rfl, ?_⟩
      rw [alls]
      refine iteF ?_
      have s24 := s3.trans s4
      refine ⟨_, rfl, _, rfl, D, p1, _, _, rfl, SqL.of (s24 _ _ gD2), SqL.of (s24 _ _ g1), ?_, ?_, fun t ps H5 s5 pl pp gt => ?_⟩
      · rw [List.length_map, List.length_map, List.length_map, hal]
      · rw [List.length_map, hal]
        omega
      refine ⟨_, rfl, wide (show 3 ≤ 1000 by decide), fun a ha' => ?_⟩
      have sa := same_new (o := .tup [.str "add", .ref t, v0]) ha'
      have s25 := (s24.trans s5).trans sa
      refine q a _ (s2.trans s25) ?_
      rw [List.length_map, hal] at pl
      have parts : ∀ {as ps : List Addr} {fs : List (Fac × Str)} {H' : Hp}, as.length = fs.length → ps.length = fs.length → (∀ (j : Nat) (a : Addr) (f : Fac × Str), as[j]? = some a → fs[j]? = some f → H' a = some (.tup [.int f.1.1, .int f.1.2])) →
          (∀ (i : Nat) (b : Addr) (f : Fac × Str) (p : Addr), as[i]? = some b → fs[i]? = some f → ps[i]? = some p → H' p = some (.tup [.ref b, .str f.2])) → TdAll K H' (ps.map V.ref) (fs.map fun f => .tuple [facD f.1, .str f.2]) := by
        intro as ps fs
        induction fs generalizing as ps with
        | nil =>
          intro H' h1 h2 _ _
          cases ps with
          | nil => exact .nil
          | cons p r => cases h2
        | cons f r ih =>
          intro H' h1 h2 h3 h4
          cases as with
          | nil => cases h1
          | cons b as =>
            cases ps with
            | nil => cases h2
            | cons p ps =>
              refine .cons (.tup (SqT.of (h4 0 b f p rfl rfl rfl)) (.cons (.tup (SqT.of (h3 0 b f rfl rfl)) (.cons (.int _) (.cons (.int _) .nil))) (.cons (.str _) .nil))) ?_
              exact ih (Nat.succ.inj h1) (Nat.succ.inj h2) (fun j a g e1 e2 => h3 (j + 1) a g e1 e2) fun j a g p e1 e2 e3 => h4 (j + 1) a g p e1 e2 e3
      refine .tup (SqT.of upd_same) (.cons (.str _) (.cons (.tup (SqT.of (sa _ _ gt)) (parts hal pl (fun j a f h1 h2 => s25 _ _ (ha2 j a f h1 h2)) fun i b f p h1 h2 h3 => sa _ _ (pp i (.ref b) (.str f.2) p ?_ ?_ h3))) (.cons ?_ .nil)))
      · rw [List.getElem?_map, h1]
        rfl
      · rw [List.getElem?_map, List.getElem?_map, h2]
        rfl
      · show Td K _ _ (gsD ((glk kn ((fs.map (·.2)).headD Str.empty)).getD []))
        rw [efs]
        show Td K _ _ (gsD ((glk kn f0.2).getD []))
        rw [hgs f0 h0]
        exact v02.mv (Same.tk ((s4.trans s5).trans sa))
end
end OG
set_option Elab.async false
set_option linter.all false
set_option maxRecDepth 100000
set_option maxHeartbeats 8000000
namespace OG
open PySem PySem.Spec PyProof.Rows L2 OGX
def formW : Frm → List Str
  | .one gs => "one" :: gs.map istr
  | .road k g h => ["road", k, istr g, istr h]
  | .prod a b => [a, "*", b]
  | .close g a => ["close", istr g, a]
  | .turn g h a => ["turn", istr g, istr h, a]
  | .add fs => "add" :: wsl fs
theorem lineW_eq (l : Ln) : lineW l = l.nm :: "=" :: formW l.fm := by
  obtain ⟨nm, fm⟩ := l
  cases fm with
  | one gs =>
    show [nm, "=", "one"] ++ ((gs.map PyData.int).map dW).flatten = nm :: "=" :: "one" :: gs.map istr
    have : ((gs.map PyData.int).map dW).flatten = gs.map istr := by
      induction gs with
      | nil => rfl
      | cons g r ih =>
        rw [List.map_cons, List.map_cons, List.flatten_cons, ih]
        rfl
    rw [this]
    rfl
  | road k g h => rfl
  | prod a b => rfl
  | close g a => rfl
  | turn g h a => rfl
  | add fs =>
    show [nm, "=", "add"] ++ ((fs.map fun f => PyData.tuple [facD f.1, .str f.2]).map dW).flatten = nm :: "=" :: "add" :: wsl fs
    rw [List.map_map]
    rfl
theorem cut1 (x : V) (r : List V) : cutV (x :: r) (some 1) none = r := by
  unfold cutV
  have e1 : HT.sIx (x :: r).length 0 (some 1) = 1 := by
    show min (1 : Int).toNat (r.length + 1) = 1
    show min 1 (r.length + 1) = 1
    omega
  have e2 : HT.sIx (x :: r).length (x :: r).length none = r.length + 1 := rfl
  rw [e1, e2]
  show r.take (r.length + 1 - 1) = r
  exact List.take_of_length_le (by omega)
/-- names of lines are no words of forms -/
theorem lnm_free {z : Str} (h : lnmB z = true) : ∀ w ∈ (["one", "road", "close", "turn", "add"] : List Str), z ≠ w := by
  unfold lnmB at h
  simp only [Bool.and_eq_true, Bool.not_eq_true', decide_eq_false_iff_not] at h
  intro w hw e
  refine h.2.2 ?_
  rw [e]
  simp only [List.mem_cons, List.mem_nil_iff, or_false] at hw ⊢
  rcases hw with h | h | h | h | h <;> simp [h]
section
variable {P : Program} {w : World} {K : PySem.W.Frag} {mg : Str → Option Value} {base : Heap}
def KnNm (kn : Kn) : Prop := ∀ z ∈ kn.map (·.1), lnmB z = true
theorem ok_read_form (T : Txt K mg) : FnOk P w K mg base CX0 6 T.f_read_form T.fd_read_form ["words", "gates"] (spRdG K (fun kn _ => KnNm kn) formW) := by
  refine T.F_read_form.ok sc_read_form (fun vs H Q E h => ?_) (fun cdv A outer s H vs Q E hr h => ?_)
  · obtain ⟨l, kd, kn, kvs, f, rfl, _⟩ := h
    rfl
  · obtain ⟨l, kd, kn, kvs, f, rfl, gk, hkn, hko, hf, hnm, hL, q⟩ := h
    refine ⟨_, (pss_cons (ps_set (i := 2) sc_read_form.nd rfl (Or.inl rfl) (pe_ifExp (pt_truth (pv 0) (by intro _; rfl)) (pe_ix ix_list (pv 0) pe_int (fun _ _ => rfl)) pe_str))
  (pss_cons (ps_if (pt_cmpR op_eq (pv 2) pe_str (nomark _)) (pss_one (ps_ret (pe_call (ok_read_one T) (hr.mono (by decide)) (by rfl) T.g_read_one T.F_read_one.kp T.b_read_one .nil pass0 (pa_cons (pe_slice sl_list (pv 0) (po_some pe_int) po_none) pa_nil)))) pss_nil)
  (pss_cons (ps_if (pt_cmpR op_eq (pv 2) pe_str (nomark _)) (pss_one (ps_ret (pe_call (ok_read_road T) (hr.mono (by decide)) (by rfl) T.g_read_road T.F_read_road.kp T.b_read_road .nil pass0 (pa_cons (pe_slice sl_list (pv 0) (po_some pe_int) po_none) pa_nil)))) pss_nil)
  (pss_cons (ps_if (pt_cmpR op_eq (pv 2) pe_str (nomark _)) (pss_one (ps_ret (pe_call (ok_read_close T) (hr.mono (by decide)) (by rfl) T.g_read_close T.F_read_close.kp T.b_read_close .nil pass0 (pa_cons (pe_slice sl_list (pv 0) (po_some pe_int) po_none) (pa_cons (pv 1) pa_nil))))) pss_nil)
  (pss_cons (ps_if (pt_cmpR op_eq (pv 2) pe_str (nomark _)) (pss_one (ps_ret (pe_call (ok_read_turn T) (hr.mono (by decide)) (by rfl) T.g_read_turn T.F_read_turn.kp T.b_read_turn .nil pass0 (pa_cons (pe_slice sl_list (pv 0) (po_some pe_int) po_none) (pa_cons (pv 1) pa_nil))))) pss_nil)
  (pss_cons (ps_if (pt_cmpR op_eq (pv 2) pe_str (nomark _)) (pss_one (ps_ret (pe_call (ok_read_add T) (hr.mono (by decide)) (by rfl) T.g_read_add T.F_read_add.kp T.b_read_add .nil pass0 (pa_cons (pe_slice sl_list (pv 0) (po_some pe_int) po_none) (pa_cons (pv 1) pa_nil))))) pss_nil)
  (pss_one (ps_ret (pe_call (ok_read_product T) (hr.mono (by decide)) (by rfl) T.g_read_product T.F_read_product.kp T.b_read_product .nil pass0 (pa_cons (pv 0) (pa_cons (pv 1) pa_nil))))))))))), ?_⟩
    have head : ∀ (z : Str) (r : List Str), formW f = z :: r → True := fun _ _ _ => trivial
    obtain ⟨z, r, ez⟩ : ∃ z r, formW f = z :: r := by cases f <;> exact ⟨_, _, rfl⟩
    have hL : SqL K H l ((z :: r).map V.str) := by rw [← ez]; exact hL
    refine ⟨_, rfl, true, .inl ⟨_, hL, rfl⟩, ?_⟩
    refine iteT ?_
    refine ⟨_, rfl, l, _, 0, .str z, rfl, rfl, hL, atI_nat (j := 0) rfl, ?_⟩
    have cutE : ∀ (z : Str) (r : List Str), cutV ((z :: r).map V.str) (some 1) none = r.map V.str := fun z r => cut1 _ _
    cases f with
    | one gs =>
      cases ez
      refine ⟨_, rfl, rfl, _, rfl, ?_⟩
      refine (show (if decide (V.str _ = V.str _) = true then _ else _) from ifS_eq ?_)
      refine ⟨_, rfl, _, rfl, l, _, rfl, hL, fun p hp => ?_⟩
      rw [cutE]
      exact ⟨p, .one gs, rfl, hf, SqL.of upd_same, fun a H' s t => q a H' ((same_new hp).trans s) t⟩
    | road k g h =>
      cases ez
      refine ⟨_, rfl, rfl, _, rfl, ?_⟩
      refine (show (if decide (V.str _ = V.str _) = true then _ else _) from ifS_ne (by decide) ?_)
      refine ⟨_, rfl, rfl, _, rfl, ?_⟩
      refine (show (if decide (V.str _ = V.str _) = true then _ else _) from ifS_eq ?_)
      refine ⟨_, rfl, _, rfl, l, _, rfl, hL, fun p hp => ?_⟩
      rw [cutE]
      exact ⟨p, .road k g h, rfl, hf, SqL.of upd_same, fun a H' s t => q a H' ((same_new hp).trans s) t⟩
    | prod a b =>
      cases ez
      obtain ⟨⟨ga, ea⟩, gb, eb⟩ := hf
      have fr := lnm_free (hnm z (List.mem_map.mpr ⟨_, glk_some ea, rfl⟩))
      refine ⟨_, rfl, rfl, _, rfl, ?_⟩
      refine (show (if decide (V.str _ = V.str _) = true then _ else _) from ifS_ne (decide_eq_false (fr "one" (by decide))) ?_)
      refine ⟨_, rfl, rfl, _, rfl, ?_⟩
      refine (show (if decide (V.str _ = V.str _) = true then _ else _) from ifS_ne (decide_eq_false (fr "road" (by decide))) ?_)
      refine ⟨_, rfl, rfl, _, rfl, ?_⟩
      refine (show (if decide (V.str _ = V.str _) = true then _ else _) from ifS_ne (decide_eq_false (fr "close" (by decide))) ?_)
      refine ⟨_, rfl, rfl, _, rfl, ?_⟩
      refine (show (if decide (V.str _ = V.str _) = true then _ else _) from ifS_ne (decide_eq_false (fr "turn" (by decide))) ?_)
      refine ⟨_, rfl, rfl, _, rfl, ?_⟩
      refine (show (if decide (V.str _ = V.str _) = true then _ else _) from ifS_ne (decide_eq_false (fr "add" (by decide))) ?_)
      exact ⟨_, rfl, _, rfl, l, kd, kn, kvs, .prod z b, rfl, gk, hkn, hko, ⟨⟨ga, ea⟩, gb, eb⟩, trivial, hL, fun a H' s t => q a H' s t⟩
    | close g a =>
      cases ez
      refine ⟨_, rfl, rfl, _, rfl, ?_⟩
      refine (show (if decide (V.str _ = V.str _) = true then _ else _) from ifS_ne (by decide) ?_)
      refine ⟨_, rfl, rfl, _, rfl, ?_⟩
      refine (show (if decide (V.str _ = V.str _) = true then _ else _) from ifS_ne (by decide) ?_)
      refine ⟨_, rfl, rfl, _, rfl, ?_⟩
      refine (show (if decide (V.str _ = V.str _) = true then _ else _) from ifS_eq ?_)
      refine ⟨_, rfl, _, rfl, l, _, rfl, hL, fun p hp => ?_⟩
      rw [cutE]
      have sp := same_new (o := .lst ((wsClose (.close g a)).map V.str)) hp
      exact ⟨_, rfl, p, kd, kn, kvs, .close g a, rfl, sp _ _ gk, hkn.mv (Same.tk sp), hko, hf, trivial, SqL.of upd_same, fun b H' s t => q b H' (sp.trans s) t⟩
    | turn g h a =>
      cases ez
      refine ⟨_, rfl, rfl, _, rfl, ?_⟩
      refine (show (if decide (V.str _ = V.str _) = true then _ else _) from ifS_ne (by decide) ?_)
      refine ⟨_, rfl, rfl, _, rfl, ?_⟩
      refine (show (if decide (V.str _ = V.str _) = true then _ else _) from ifS_ne (by decide) ?_)
      refine ⟨_, rfl, rfl, _, rfl, ?_⟩
      refine (show (if decide (V.str _ = V.str _) = true then _ else _) from ifS_ne (by decide) ?_)
      refine ⟨_, rfl, rfl, _, rfl, ?_⟩
      refine (show (if decide (V.str _ = V.str _) = true then _ else _) from ifS_eq ?_)
      refine ⟨_, rfl, _, rfl, l, _, rfl, hL, fun p hp => ?_⟩
      rw [cutE]
      have sp := same_new (o := .lst ((wsTurn (.turn g h a)).map V.str)) hp
      exact ⟨_, rfl, p, kd, kn, kvs, .turn g h a, rfl, sp _ _ gk, hkn.mv (Same.tk sp), hko, hf, trivial, SqL.of upd_same, fun b H' s t => q b H' (sp.trans s) t⟩
    | add fs =>
      cases ez
      refine ⟨_, rfl, rfl, _, rfl, ?_⟩
      refine (show (if decide (V.str _ = V.str _) = true then _ else _) from ifS_ne (by decide) ?_)
      refine ⟨_, rfl, rfl, _, rfl, ?_⟩
      refine (show (if decide (V.str _ = V.str _) = true then _ else _) from ifS_ne (by decide) ?_)
      refine ⟨_, rfl, rfl, _, rfl, ?_⟩
      refine (show (if decide (V.str _ = V.str _) = true then _ else _) from ifS_ne (by decide) ?_)
      refine ⟨_, rfl, rfl, _, rfl, ?_⟩
      refine (show (if decide (V.str _ = V.str _) = true then _ else _) from ifS_ne (by decide) ?_)
      refine ⟨_, rfl, rfl, _, rfl, ?_⟩
      refine (show (if decide (V.str _ = V.str _) = true then _ else _) from ifS_eq ?_)
      refine ⟨_, rfl, _, rfl, l, _, rfl, hL, fun p hp => ?_⟩
      rw [cutE]
      have sp := same_new (o := .lst ((wsAdd (.add fs)).map V.str)) hp
      exact ⟨_, rfl, p, kd, kn, kvs, .add fs, rfl, sp _ _ gk, hkn.mv (Same.tk sp), hko, hf, trivial, SqL.of upd_same, fun b H' s t => q b H' (sp.trans s) t⟩
end
end OG
set_option Elab.async false
set_option linter.all false
set_option maxRecDepth 100000
set_option maxHeartbeats 8000000
namespace OG
open PySem PySem.Spec PyProof.Rows L2 OGX
/-- no blank, no line feed -/
def Free (z : Str) : Prop := 32 ∉ tl z ∧ 10 ∉ tl z
theorem Nice.free {z : Str} (h : Nice z) : Free z := ⟨fun m => absurd (h.lo _ m) (by decide), fun m => absurd (h.lo _ m) (by decide)⟩
theorem free_istr (i : Int) : Free (istr i) := ⟨istr_free (by decide), istr_free (by decide)⟩
theorem tl_app9 (a b : Str) : tl (a ++ b) = tl a ++ tl b := TL.tl_append a b
theorem free_app {a b : Str} (h1 : Free a) (h2 : Free b) : Free (a ++ b) := by
  refine ⟨fun m => ?_, fun m => ?_⟩
  · rw [tl_app9] at m
    rcases List.mem_append.mp m with m | m
    · exact h1.1 m
    · exact h2.1 m
  · rw [tl_app9] at m
    rcases List.mem_append.mp m with m | m
    · exact h1.2 m
    · exact h2.2 m
theorem free_fac (f : Fac) : Free (facT f) := by
  unfold facT
  split
  · exact free_istr _
  · exact free_app (free_app (free_istr _) ⟨by decide +kernel, by decide +kernel⟩) (free_istr _)
theorem free_form {f : Frm} (h : ∀ z ∈ f.strs, Nice z) : ∀ z ∈ formW f, Free z := by
  have w : ∀ z ∈ (["one", "road", "close", "turn", "add", "*", "="] : List Str), Free z := by
    intro z hz
    simp only [List.mem_cons, List.mem_nil_iff, or_false] at hz
    rcases hz with rfl | rfl | rfl | rfl | rfl | rfl | rfl <;> exact ⟨by decide +kernel, by decide +kernel⟩
  intro z hz
  cases f with
  | one gs =>
    rcases List.mem_cons.mp hz with rfl | hz
    · exact w _ (by decide)
    · obtain ⟨g, _, rfl⟩ := List.mem_map.mp hz
      exact free_istr g
  | road k g h' =>
    have hz : z ∈ (["road", k, istr g, istr h'] : List Str) := hz
    simp only [List.mem_cons, List.mem_nil_iff, or_false] at hz
    rcases hz with rfl | rfl | rfl | rfl
    · exact w _ (by decide)
    · exact (h _ List.mem_cons_self).free
    · exact free_istr _
    · exact free_istr _
  | prod a b =>
    have hz : z ∈ ([a, "*", b] : List Str) := hz
    simp only [List.mem_cons, List.mem_nil_iff, or_false] at hz
    rcases hz with rfl | rfl | rfl
    · exact (h _ List.mem_cons_self).free
    · exact w _ (by decide)
    · exact (h _ (List.mem_cons_of_mem _ List.mem_cons_self)).free
  | close g a =>
    have hz : z ∈ (["close", istr g, a] : List Str) := hz
    simp only [List.mem_cons, List.mem_nil_iff, or_false] at hz
    rcases hz with rfl | rfl | rfl
    · exact w _ (by decide)
    · exact free_istr _
    · exact (h _ List.mem_cons_self).free
  | turn g h' a =>
    have hz : z ∈ (["turn", istr g, istr h', a] : List Str) := hz
    simp only [List.mem_cons, List.mem_nil_iff, or_false] at hz
    rcases hz with rfl | rfl | rfl | rfl
    · exact w _ (by decide)
    · exact free_istr _
    · exact free_istr _
    · exact (h _ List.mem_cons_self).free
  | add fs =>
    rcases List.mem_cons.mp hz with rfl | hz
    · exact w _ (by decide)
    · obtain ⟨l, hl, hz⟩ := List.mem_flatten.mp hz
      obtain ⟨f, hf, rfl⟩ := List.mem_map.mp hl
      simp only [List.mem_cons, List.mem_nil_iff, or_false] at hz
      rcases hz with rfl | rfl
      · exact free_fac _
      · exact (h _ (List.mem_map.mpr ⟨f, hf, rfl⟩)).free
theorem free_line {l : Ln} (h : LnNice l) : ∀ z ∈ lineW l, Free z := by
  rw [lineW_eq]
  intro z hz
  rcases List.mem_cons.mp hz with rfl | hz
  · exact h.nm.free
  rcases List.mem_cons.mp hz with rfl | hz
  · exact ⟨by decide +kernel, by decide +kernel⟩
  · exact free_form h.fm z hz
theorem lineT_split {l : Ln} (h : LnNice l) : Txt.split (lineT l) " " = lineW l := split_sp (by rw [lineW_eq]; exact List.cons_ne_nil _ _) fun z hz => (free_line h z hz).1
theorem lineT_free {l : Ln} (h : LnNice l) : 10 ∉ tl (lineT l) := join_free (by decide) fun z hz => (free_line h z hz).2
theorem textT_split {lns : List Ln} (h : ∀ l ∈ lns, LnNice l) : Txt.split (textT lns) "\n" = ("script" : Str) :: lns.map lineT := split_nl (List.cons_ne_nil _ _) fun z hz => by
  rcases List.mem_cons.mp hz with rfl | hz
  · decide +kernel
  · obtain ⟨l, hl, rfl⟩ := List.mem_map.mp hz
    exact lineT_free (h l hl)
theorem cut12 (x y : V) (r : List V) : cutV (x :: y :: r) (some 1) (some 2) = [y] := by
  unfold cutV
  have e1 : HT.sIx (x :: y :: r).length 0 (some 1) = 1 := by
    show min 1 (r.length + 1 + 1) = 1
    omega
  have e2 : HT.sIx (x :: y :: r).length (x :: y :: r).length (some 2) = 2 := by
    show min 2 (r.length + 1 + 1) = 2
    omega
  rw [e1, e2]
  rfl
theorem cut2 (x y : V) (r : List V) : cutV (x :: y :: r) (some 2) none = r := by
  unfold cutV
  have e1 : HT.sIx (x :: y :: r).length 0 (some 2) = 2 := by
    show min 2 (r.length + 1 + 1) = 2
    omega
  have e2 : HT.sIx (x :: y :: r).length (x :: y :: r).length none = r.length + 1 + 1 := rfl
  rw [e1, e2]
  show r.take (r.length + 1 + 1 - 2) = r
  exact List.take_of_length_le (by omega)
section
variable {P : Program} {w : World} {K : PySem.W.Frag} {mg : Str → Option Value} {base : Heap}
def Ln.told (kn : Kn) (l : Ln) : PyData := .tuple [.str l.nm, .str l.fm.word, .tuple l.fm.partsL, gsD (l.fm.gates kn)]
def spRdLine (K : PySem.W.Frag) : Sp := fun vs H Q _ => ∃ (kd : Addr) (kn : Kn) (kvs : List (Key × V)) (l : Ln), vs = [.str (lineT l), .ref kd] ∧ H kd = some (.dK kvs) ∧ KnD K H kvs kn ∧ KnOk kn ∧ LnOk kn l ∧ KnNm kn ∧ LnNice l ∧
  ∀ (a : Addr) (H' : Hp), Same H H' → Td K H' (.ref a) (l.told kn) → Q (.ref a) H'
theorem ok_read_line (T : Txt K mg) : FnOk P w K mg base CX0 7 T.f_read_line T.fd_read_line ["text", "gates"] (spRdLine K) := by
  refine T.F_read_line.ok sc_read_line (fun vs H Q E h => ?_) (fun cdv A outer s H vs Q E hr h => ?_)
  · obtain ⟨kd, kn, kvs, l, rfl, _⟩ := h
    rfl
  · obtain ⟨kd, kn, kvs, l, rfl, gk, hkn, hko, lo, hnm, nice, q⟩ := h
    refine ⟨_, (pss_cons (ps_set (i := 2) sc_read_line.nd rfl (Or.inl rfl) (pe_split (pv 0) pe_str))
  (pss_cons (ps_set (i := 3) sc_read_line.nd rfl (Or.inl rfl) (pe_ix ix_list (pv 2) pe_int (fun _ _ => rfl)))
  (pss_cons (ps_if (PW.pt (pw_or (pt_not (pt_val (pe_call (ok_is_line_name T) (hr.mono (by decide)) (by rfl) T.g_is_line_name T.F_is_line_name.kp T.b_is_line_name .nil pass0 (pa_cons (pv 3) pa_nil)))) (pw_or (pt_cmp (pc_din (hu_of hr) (pv 3) (pv 1))) (pw_or1 (pt_cmpR (op_neD hr.units) (pe_slice sl_list (pv 2) (po_some pe_int) (po_some pe_int)) (pe_lst (pa_cons pe_str pa_nil)) (nomark _)))))) (pss_one (ps_ret pe_non)) pss_nil)
  (pss_cons (ps_set (i := 4) sc_read_line.nd rfl (Or.inl rfl) (pe_call (ok_read_form T) (hr.mono (by decide)) (by rfl) T.g_read_form T.F_read_form.kp T.b_read_form .nil pass0 (pa_cons (pe_slice sl_list (pv 2) (po_some pe_int) po_none) (pa_cons (pv 1) pa_nil))))
  (pss_cons (ps_if (pt_cmpR op_isN (pv 4) pe_non (nomark _)) (pss_one (ps_ret pe_non)) pss_nil)
  (pss_cons (ps_asg (pv 4) (pg_tup (by rfl) (pgs_cons (pg_name (i := 5) sc_read_line.nd rfl (Or.inl rfl)) (pgs_cons (pg_name (i := 6) sc_read_line.nd rfl (Or.inl rfl)) (pgs_cons (pg_name (i := 7) sc_read_line.nd rfl (Or.inl rfl)) pgs_nil)))))
  (pss_one (ps_ret (pe_tup (pa_cons (pv 3) (pa_cons (pv 5) (pa_cons (pv 6) (pa_cons (pv 7) pa_nil))))))))))))), ?_⟩
    have fit : LnFit l := ⟨nice.nm.len, lo.fm.fit hko nice.fm⟩
    have ll := lineT_len fit
    have wide : ∀ {n : Nat}, n ≤ 10000 → n ≤ sizeLine := fun h => Nat.le_trans h (by decide)
    refine ⟨_, rfl, ⟨_, rfl⟩, lineT l, " ", rfl, rfl, rfl, wide (by omega), fun p hp => ?_⟩
    rw [lineT_split nice, lineW_eq]
    have s0 := same_new (o := .lst ((l.nm :: "=" :: formW l.fm).map V.str)) hp
    have g0 : (upd H p (.lst ((l.nm :: "=" :: formW l.fm).map V.str))) p = some (.lst ((l.nm :: "=" :: formW l.fm).map V.str)) := upd_same
    generalize upd H p (.lst ((l.nm :: "=" :: formW l.fm).map V.str)) = H0 at *
    refine ⟨_, rfl, p, _, 0, .str l.nm, rfl, rfl, SqL.of g0, atI_nat (j := 0) rfl, ?_⟩
    refine ⟨_, rfl, l.nm, rfl, Nat.le_trans nice.nm.len (by decide), fun H1 s1 => ?_⟩
    rw [lo.nm]
    refine ⟨_, rfl, ?_⟩
    refine iteF ?_
    have s01 := s0.trans s1
    refine ⟨_, rfl, _, rfl, kd, none, rfl, .inl ⟨kvs, .inr l.nm, .inl (s01 _ _ gk), rfl, (hkn.no (glk_none.mpr lo.new)).symm⟩, _, rfl, ?_⟩
    refine iteF ?_
    refine ⟨_, rfl, _, rfl, _, rfl, p, _, rfl, SqL.of (s1 _ _ g0), fun p1 hp1 => ?_⟩
    rw [show cutV ((l.nm :: "=" :: formW l.fm).map V.str) (some 1) (some 2) = (["="] : List Str).map V.str from cut12 _ _ _]
    have s2 := s1.trans (same_new (o := .lst ((["="] : List Str).map V.str)) hp1)
    have g1 : (upd H1 p1 (.lst ((["="] : List Str).map V.str))) p1 = some (.lst ((["="] : List Str).map V.str)) := upd_same
    generalize upd H1 p1 (.lst ((["="] : List Str).map V.str)) = H2 at *
    refine ⟨wide (show 1 ≤ 10000 by decide), fun p2 hp2 => ?_⟩
    have s3 := s2.trans (same_new (o := .lst [.str "="]) hp2)
    have okE : ∀ z ∈ (["="] : List Str), PyData.strOk z = true := by
      intro z hz
      rw [List.mem_singleton.mp hz]
      decide +kernel
    refine ⟨.list ((["="] : List Str).map PyData.str), .list ((["="] : List Str).map PyData.str), .lst (SqL.of (same_new hp2 _ _ g1)) (.cons (.str _) .nil), .lst (SqL.of upd_same) (.cons (.str _) .nil), shaped_strs okE, shaped_strs okE, _, rfl, ?_⟩
    rw [show PyData.eqv (.list ((["="] : List Str).map PyData.str)) (.list ((["="] : List Str).map PyData.str)) = true by simp [PyData.eqv, PyData.eqvAll]]
    refine iteF ?_
    generalize upd H2 p2 (.lst [.str "="]) = H3 at *
    refine ⟨_, rfl, _, rfl, p, _, rfl, SqL.of (s3 _ _ g0), fun p3 hp3 => ?_⟩
    rw [show cutV ((l.nm :: "=" :: formW l.fm).map V.str) (some 2) none = (formW l.fm).map V.str from cut2 _ _ _]
    have s4 := (s0.trans s3).trans (same_new (o := .lst ((formW l.fm).map V.str)) hp3)
    refine ⟨_, rfl, p3, kd, kn, kvs, l.fm, rfl, s4 _ _ gk, hkn.mv (Same.tk s4), hko, lo.fm, hnm, SqL.of upd_same, fun a H4 s5 td => ?_⟩
    have s5 := s4.trans s5
    obtain ⟨_, xs, e, hT, hA⟩ := td.tupI
    cases e
    obtain ⟨x1, r1, rfl, t1, hA⟩ := hA.consI
    obtain ⟨x2, r2, rfl, t2, hA⟩ := hA.consI
    obtain ⟨x3, r3, rfl, t3, hA⟩ := hA.consI
    cases hA.nilI
    refine ⟨_, rfl, rfl, _, rfl, ?_⟩
    refine iteF ?_
    refine ⟨_, rfl, a, _, rfl, hT, rfl, _, _, rfl, _, _, rfl, _, _, rfl, rfl, ?_⟩
    refine ⟨_, rfl, _, rfl, _, rfl, _, rfl, wide (show 4 ≤ 10000 by decide), fun b hb => ?_⟩
    have sb := same_new (o := .tup [.str l.nm, x1, x2, x3]) hb
    exact q b _ (s5.trans sb) (.tup (SqT.of upd_same) (.cons (.str _) (.cons (t1.mv (Same.tk sb)) (.cons (t2.mv (Same.tk sb)) (.cons (t3.mv (Same.tk sb)) .nil)))))
end
end OG
set_option Elab.async false
set_option linter.all false
set_option maxRecDepth 100000
set_option maxHeartbeats 8000000
namespace OG
open PySem PySem.Spec PyProof.Rows L2 OGX
theorem LnsOk.nms {lns : List Ln} (h : LnsOk [] lns) : KnNm (knOf [] lns) := by
  intro z hz
  rw [knOf_names] at hz
  obtain ⟨l, hl, rfl⟩ := List.mem_map.mp (show z ∈ lns.map (·.nm) from hz)
  obtain ⟨i, hi⟩ := List.mem_iff_getElem?.mp hl
  exact (h.at hi).nm
section
variable {P : Program} {w : World} {K : PySem.W.Frag} {mg : Str → Option Value} {base : Heap}
def spRdScript (K : PySem.W.Frag) : Sp := fun vs H Q _ => ∃ (lns : List Ln), vs = [.str (textT lns)] ∧ LnsOk [] lns ∧ (∀ l ∈ lns, LnNice l) ∧ lns ≠ [] ∧ lns.length ≤ 1000 ∧
  ∀ (a lt kd : Addr) (xs : List V) (kvs : List (Key × V)) (H' : Hp), Same H H' → H' a = some (.tup [.ref lt, .ref kd]) → H' lt = some (.tup xs) → TdAll K H' xs (lns.map Ln.data) → H' kd = some (.dK kvs) → KnD K H' kvs (knOf [] lns) → Q (.ref a) H'
theorem ok_read_script (T : Txt K mg) : FnOk P w K mg base CX0 8 T.f_read_script T.fd_read_script ["text"] (spRdScript K) := by
  refine T.F_read_script.ok sc_read_script (fun vs H Q E h => ?_) (fun cdv A outer s H vs Q E hr h => ?_)
  · obtain ⟨lns, rfl, _⟩ := h
    rfl
  · obtain ⟨lns, rfl, ok, nice, h0, hn, q⟩ := h
    refine ⟨_, (pss_cons (ps_set (i := 1) sc_read_script.nd rfl (Or.inl rfl) (pe_split (pv 0) pe_str))
  (pss_cons (ps_if (pt_cmpR op_ne (pe_ix ix_list (pv 1) pe_int (fun _ _ => rfl)) pe_str (nomark _)) pss_dead pss_nil)
  (pss_cons (ps_if (pt_cmpR op_eq (pe_callB call_len_seq (by rfl) T.n_len PySem.boot_len (pa_cons (pv 1) pa_nil)) pe_int (nomark _)) pss_dead pss_nil)
  (pss_cons (ps_set (i := 2) sc_read_script.nd rfl (Or.inl rfl) (pe_lst pa_nil))
  (pss_cons (ps_set (i := 3) sc_read_script.nd rfl (Or.inl rfl) pe_dnewK)
  (pss_cons (ps_for PassesOwn.never rfl (OGX.pi_enumS (by rfl) T.n_enumerate (pa_cons (pe_slice sl_list (pv 1) (po_some pe_int) po_none) pa_nil) (pk_cons pe_int pk_nil)) (pg_tup (by rfl) (pgs_cons (pg_name (i := 4) sc_read_script.nd rfl (Or.inl rfl)) (pgs_cons (pg_name (i := 5) sc_read_script.nd rfl (Or.inl rfl)) pgs_nil))) (pss_cons (ps_set (i := 6) sc_read_script.nd rfl (Or.inl rfl) (pe_call (ok_read_line T) (hr.mono (by decide)) (by rfl) T.g_read_line T.F_read_line.kp T.b_read_line .nil pass0 (pa_cons (pv 5) (pa_cons (pv 3) pa_nil))))
  (pss_cons (ps_if (pt_cmpR op_isN (pv 6) pe_non (nomark _)) pss_dead pss_nil)
  (pss_cons (ps_asg (pv 6) (pg_tup (by rfl) (pgs_cons (pg_name (i := 7) sc_read_script.nd rfl (Or.inl rfl)) (pgs_cons (pg_name (i := 8) sc_read_script.nd rfl (Or.inl rfl)) (pgs_cons (pg_name (i := 9) sc_read_script.nd rfl (Or.inl rfl)) (pgs_cons (pg_name (i := 10) sc_read_script.nd rfl (Or.inl rfl)) pgs_nil))))))
  (pss_cons (ps_expr (pe_bm PySem.F.plainAttrs_list PySem.F.slot_list_append PySem.F.type_list_append mt_append (pv 2) (pa_cons (pe_tup (pa_cons (pv 7) (pa_cons (pv 8) (pa_cons (pv 9) pa_nil)))) pa_nil)))
  (pss_one (ps_dput (hu_of hr) (pv 3) (pv 7) (pv 10) rfl)))))))
  (pss_one (ps_ret (pe_tup (pa_cons (pe_callTy call_tuple_of (by rfl) T.n_tuple (by decide +kernel) (pa_cons (pv 2) pa_nil)) (pa_cons (pv 3) pa_nil))))))))))), ?_⟩
    have wide : ∀ {n : Nat}, n ≤ 10000000 → n ≤ sizeLine := fun h => Nat.le_trans h (by decide)
    have fit : ∀ l ∈ lns, LnFit l := fun l hl => by
      obtain ⟨i, hi⟩ := List.mem_iff_getElem?.mp hl
      exact ⟨(nice l hl).nm.len, (ok.at hi).fm.fit (KnOk.of KnOk.nil (ok.take i)) (nice l hl).fm⟩
    have tl9 : (textT lns).length ≤ 6300294 := join_le (c := 6293) (n := 1001) (fun y hy => by
      rcases List.mem_cons.mp hy with rfl | hy
      · decide
      · obtain ⟨l, hl, rfl⟩ := List.mem_map.mp hy
        exact lineT_len (fit l hl)) (by rw [List.length_cons, List.length_map]; omega) rfl
    refine ⟨_, rfl, ⟨_, rfl⟩, textT lns, "\n", rfl, rfl, rfl, wide (by omega), fun p hp => ?_⟩
    rw [textT_split nice]
    have s0 := same_new (o := .lst ((("script" : Str) :: lns.map lineT).map V.str)) hp
    have g0 : (upd H p (.lst ((("script" : Str) :: lns.map lineT).map V.str))) p = some (.lst ((("script" : Str) :: lns.map lineT).map V.str)) := upd_same
    generalize upd H p (.lst ((("script" : Str) :: lns.map lineT).map V.str)) = H0 at *
    refine ⟨_, rfl, p, _, 0, .str "script", rfl, rfl, SqL.of g0, atI_nat (j := 0) rfl, rfl, _, rfl, ?_⟩
    refine iteF ?_
    refine ⟨_, rfl, p, _, rfl, .inl (SqL.of g0), rfl, _, rfl, ?_⟩
    rw [decide_eq_false fun z => by
      have z := V.int.inj z
      rw [List.length_map, List.length_cons, List.length_map] at z
      have := List.length_pos_iff.mpr h0
      omega]
    refine iteF ?_
    refine ⟨wide (show 0 ≤ 10000000 by decide), fun lp hlp kd hkd => ?_⟩
    have nLK : lp ≠ kd := fun e => by
      rw [← e, upd_same] at hkd
      cases hkd
    have sA := same_new (o := .lst []) hlp
    have sB := same_new (o := .dK []) hkd
    have gl : (upd (upd H0 lp (.lst [])) kd (.dK [])) lp = some (.lst []) := sB _ _ upd_same
    have gk : (upd (upd H0 lp (.lst [])) kd (.dK [])) kd = some (.dK []) := upd_same
    have fk : H0 kd = none := fresh_of sA hkd
    have s1 := sA.trans sB
    have g1 := s1 _ _ g0
    generalize upd (upd H0 lp (.lst [])) kd (.dK []) = H1 at *
    refine ⟨_, rfl, _, rfl, p, _, rfl, SqL.of g1, fun sl hsl => ?_⟩
    rw [show cutV ((("script" : Str) :: lns.map lineT).map V.str) (some 1) none = (lns.map lineT).map V.str from cut1 _ _]
    have s2 := same_new (o := .lst ((lns.map lineT).map V.str)) hsl
    have gs : (upd H1 sl (.lst ((lns.map lineT).map V.str))) sl = some (.lst ((lns.map lineT).map V.str)) := upd_same
    have nsl : sl ≠ lp := fun e => by
      rw [e, gl] at hsl
      cases hsl
    have nsk : sl ≠ kd := fun e => by
      rw [e, gk] at hsl
      cases hsl
    have gl := s2 _ _ gl
    have gk := s2 _ _ gk
    have s3 := (s0.trans s1).trans s2
    have nH0 : H lp = none := fresh_of s0 hlp
    have nHk : H kd = none := fresh_of s0 fk
    generalize upd H1 sl (.lst ((lns.map lineT).map V.str)) = H2 at *
    refine ⟨sl, _, 2, rfl, rfl, by decide, SqL.of gs, ?_⟩
    refine OGX.for_enumS (K := K) (a := sl) (xs := (lns.map lineT).map V.str) (m0 := 2) (fun i σ H' => ∃ (u4 u5 u6 u7 u8 u9 u10 : Option V) (xs : List V) (kvs : List (Key × V)), σ = [some (.str (textT lns)), some (.ref p), some (.ref lp), some (.ref kd), u4, u5, u6, u7, u8, u9, u10] ∧ Same H H' ∧ H' sl = some (.lst ((lns.map lineT).map V.str)) ∧
        H' lp = some (.lst xs) ∧ H' kd = some (.dK kvs) ∧ TdAll K H' xs ((lns.take i).map Ln.data) ∧ KnD K H' kvs (knOf [] (lns.take i)) ∧ i ≤ lns.length)
      ⟨_, _, _, _, _, _, _, [], [], rfl, s3, gs, gl, gk, .nil, .nil, Nat.zero_le _⟩ (fun i σ H' ⟨_, _, _, _, _, _, _, _, _, _, _, gs, _⟩ => SqL.of gs) ?_ ?_
    · rintro i x T0 σ H' hx ⟨u4, u5, u6, u7, u8, u9, u10, xs, kvs, rfl, s, gs, gl, gk, td, kn, hi⟩ hT0
      obtain ⟨z, hz, rfl⟩ := str_at hx
      rw [List.getElem?_map] at hz
      cases el : lns[i]? with
      | none =>
        rw [el] at hz
        cases hz
      | some l =>
        rw [el] at hz
        cases Option.some.inj hz
        have lo := ok.at el
        have hil := (List.getElem?_eq_some_iff.mp el).1
        have ok' := ok.take i
        have ko := KnOk.of KnOk.nil ok'
        have u1 := same_new (o := .tup [.int ((2 + i : Nat) : Int), .str (lineT l)]) hT0
        refine ⟨T0, _, rfl, SqT.of upd_same, rfl, _, _, rfl, _, _, rfl, rfl, ?_⟩
        generalize upd H' T0 (.tup [.int ((2 + i : Nat) : Int), .str (lineT l)]) = H3 at *
        refine ⟨_, rfl, _, rfl, kd, _, kvs, l, rfl, u1 _ _ gk, kn.mv (Same.tk u1), ko, lo, ok'.nms, nice l (List.mem_of_getElem? el), fun a H4 u2 tdl => ?_⟩
        have u2 := u1.trans u2
        obtain ⟨_, ys, e, hT, hA⟩ := tdl.tupI
        cases e
        obtain ⟨x1, r1, rfl, t1, hA⟩ := hA.consI
        obtain ⟨x2, r2, rfl, t2, hA⟩ := hA.consI
        obtain ⟨x3, r3, rfl, t3, hA⟩ := hA.consI
        obtain ⟨x4, r4, rfl, t4, hA⟩ := hA.consI
        cases hA.nilI
        cases t1.strI
        cases t2.strI
        refine ⟨_, rfl, rfl, _, rfl, ?_⟩
        refine iteF ?_
        refine ⟨_, rfl, a, _, rfl, hT, rfl, _, _, rfl, _, _, rfl, _, _, rfl, _, _, rfl, rfl, ?_⟩
        refine ⟨_, rfl, .inl ⟨rfl, _, SqL.of (u2 _ _ gl)⟩, ?_⟩
        refine ⟨_, rfl, _, rfl, _, rfl, wide (show 3 ≤ 10000000 by decide), fun tt htt => ?_⟩
        have u3 := u2.trans (same_new (o := .tup [.str l.nm, .str l.fm.word, x3]) htt)
        have gt : (upd H4 tt (.tup [.str l.nm, .str l.fm.word, x3])) tt = some (.tup [.str l.nm, .str l.fm.word, x3]) := upd_same
        have k34 : TK H4 (upd H4 tt (.tup [.str l.nm, .str l.fm.word, x3])) := tk_new htt
        generalize upd H4 tt (.tup [.str l.nm, .str l.fm.word, x3]) = H5 at *
        have xl : xs.length ≤ 1000 := by
          have := td.lnLen
          rw [List.length_take] at this
          omega
        refine ⟨lp, xs, .ref tt, rfl, rfl, u3 _ _ gl, Nat.lt_of_le_of_lt xl (by decide), ?_⟩
        have k6 := tk_lst (o := .lst (xs ++ [.ref tt])) (u3 _ _ gl)
        have g6l : (upd H5 lp (.lst (xs ++ [.ref tt]))) lp = some (.lst (xs ++ [.ref tt])) := upd_same
        have g6k : (upd H5 lp (.lst (xs ++ [.ref tt]))) kd = some (.dK kvs) := by
          rw [upd_ne (fun e => nLK e.symm)]
          exact u3 _ _ gk
        have g6s : (upd H5 lp (.lst (xs ++ [.ref tt]))) sl = some (.lst ((lns.map lineT).map V.str)) := by
          rw [upd_ne nsl]
          exact u3 _ _ gs
        have s6 : Same H (upd H5 lp (.lst (xs ++ [.ref tt]))) := fun b o e => by
          rw [upd_ne (ne_of_none e nH0)]
          exact u3 _ _ (s _ _ e)
        generalize upd H5 lp (.lst (xs ++ [.ref tt])) = H6 at *
        have kl : kvs.length ≤ 1000 := by
          rw [kn.len, knOf_len, List.length_take]
          show 0 + _ ≤ 1000
          omega
        refine ⟨_, rfl, _, rfl, _, rfl, kd, _, rfl, .inl ⟨kvs, .inr l.nm, g6k, rfl, Nat.lt_of_le_of_lt kl (by decide), rfl⟩, ?_⟩
        have nk : valV kvs (.inr l.nm) = none := kn.no (glk_none.mpr lo.new)
        have k7 := tk_dK (o := .dK (putK kvs (.inr l.nm) x4)) g6k
        have kall := (((Same.tk u2).trans k34).trans k6).trans k7
        have k47 := (k34.trans k6).trans k7
        refine ⟨_, _, _, _, _, _, _, xs ++ [.ref tt], putK kvs (.inr l.nm) x4, rfl, fun b o e => ?_, ?_, ?_, upd_same, ?_, ?_, hil⟩
        · rw [upd_ne (ne_of_none e nHk)]
          exact s6 _ _ e
        · rw [upd_ne nsk]
          exact g6s
        · rw [upd_ne nLK]
          exact g6l
        · rw [take_more el, List.map_append]
          exact TdAll.snoc (.tup (SqT.tk (SqT.tk (SqT.of gt) k6) k7) (.cons (.str _) (.cons (.str _) (.cons (t3.mv k47) .nil)))) (td.mv kall)
        · rw [putK_new _ nk] at kall k47 ⊢
          rw [knOf_take el]
          exact KnD.snoc (t4.mv k47) (kn.mv kall)
    · rintro σ H' ⟨u4, u5, u6, u7, u8, u9, u10, xs, kvs, rfl, s, gs, gl, gk, td, kn, _⟩
      rw [List.length_map, List.length_map, List.take_length] at td kn
      refine ⟨_, rfl, lp, xs, rfl, .inl ⟨SqL.of gl, fun lt hlt => ⟨_, rfl, wide (show 2 ≤ 10000000 by decide), fun a ha => ?_⟩⟩⟩
      have e1 := same_new (o := .tup xs) hlt
      have e2 := same_new (o := .tup [.ref lt, .ref kd]) ha
      have st := e1.trans e2
      exact q a lt kd xs kvs _ (s.trans st) upd_same (e2 _ _ upd_same) (td.mv (Same.tk st)) (st _ _ gk) (kn.mv (Same.tk st))
end
end OG
set_option Elab.async false
set_option linter.all false
set_option maxRecDepth 100000
set_option maxHeartbeats 8000000
namespace OG
open PySem PySem.Spec PyProof.Rows L2 OGX
/-- the class of scripts -/
structure TxtX (K : PySem.W.Frag) (mg : Str → Option Value) (T : Txt K mg) : Prop where
  tyI : PySem.W.typeIn K (.ref T.f_GateError_init) = some (.type "function")
  cl : Cls K T.c_Script
  mkS : Mk K T.c_Script T.f_Script_init
  na1 : NoAttr K T.c_Script "text"
  na2 : NoAttr K T.c_Script "lines"
  na3 : NoAttr K T.c_Script "gates"
  na4 : NoAttr K T.c_Script "width"
  na5 : NoAttr K T.c_Script "is_plain"
  na6 : NoAttr K T.c_Script "_gates_by_name"
  ca : PySem.W.findIn K (.ref T.c_Script) "__class__" = some (some (.builtin "object.__class__"))
  ob : PySem.W.mroIn K T.c_Script (.type "object") = some true
  kb : PySem.W.kitOne K (.ref T.c_Script) (.ref T.c_Script) = some true
def lastG (lns : List Ln) : List Int := (lns.getLast?.bind fun l => glk (knOf [] lns) l.nm).getD []
def plainL (lns : List Ln) : Bool := !(lns.map fun l => decide (l.fm.word = ("add" : Str))).any id
/-- a script as it stands -/
def ScrAt (K : PySem.W.Frag) (C : Addr) (H : Hp) (x : Addr) (lns : List Ln) : Prop := ∃ (dx lt kd ga : Addr) (fs : List (Str × V)) (xs : List V) (kvs : List (Key × V)), H x = some (.ins C dx fs) ∧ fs.length ≤ 10 ∧
  fs.lookup ("text" : Str) = some (.str (textT lns)) ∧ fs.lookup ("lines" : Str) = some (.ref lt) ∧ H lt = some (.tup xs) ∧ TdAll K H xs (lns.map Ln.data) ∧ fs.lookup ("gates" : Str) = some (.ref ga) ∧ Td K H (.ref ga) (gsD (lastG lns)) ∧
  fs.lookup ("width" : Str) = some (.int (widthL lns : Nat)) ∧ fs.lookup ("is_plain" : Str) = some (.bl (plainL lns)) ∧ fs.lookup ("_gates_by_name" : Str) = some (.ref kd) ∧ H kd = some (.dK kvs) ∧ KnD K H kvs (knOf [] lns) ∧ fs.lookup ("gates_of" : Str) = none
theorem putF_le (f : Str) (y : V) : ∀ fs : List (Str × V), (putF f y fs).length ≤ fs.length + 1
  | [] => Nat.le_refl _
  | p :: r => by
    have := putF_le f y r
    unfold putF
    split <;> simp_all
theorem tk_ins {H : Hp} {x C dx : Addr} {fs : List (Str × V)} {o : HO} (h : H x = some (.ins C dx fs)) : TK H (upd H x o) := ⟨fun b ys e => by rw [upd_ne (fun z => by rw [z, h] at e; cases e)]; exact e, fun b u ys e => by rw [upd_ne (fun z => by rw [z, h] at e; cases e)]; exact e⟩
structure IS (K : PySem.W.Frag) (C : Addr) (H0 : Hp) (x lt kd dx : Addr) (xs : List V) (kvs : List (Key × V)) (lns : List Ln) (fs : List (Str × V)) (H' : Hp) : Prop where
  s : Same H0 H'
  hx : H' x = some (.ins C dx fs)
  gl : H' lt = some (.tup xs)
  td : TdAll K H' xs (lns.map Ln.data)
  gk : H' kd = some (.dK kvs)
  kn : KnD K H' kvs (knOf [] lns)
theorem IS.put {K : PySem.W.Frag} {C : Addr} {H0 H' : Hp} {x lt kd dx : Addr} {xs : List V} {kvs : List (Key × V)} {lns : List Ln} {fs fs' : List (Str × V)} (h : IS K C H0 x lt kd dx xs kvs lns fs H') (hx0 : H0 x = none) (nl : lt ≠ x) (nk : kd ≠ x) :
    IS K C H0 x lt kd dx xs kvs lns fs' (upd H' x (.ins C dx fs')) := by
  refine ⟨fun b o e => ?_, upd_same, ?_, h.td.mv (tk_ins h.hx), ?_, h.kn.mv (tk_ins h.hx)⟩
  · rw [upd_ne (ne_of_none e hx0)]
    exact h.s _ _ e
  · rw [upd_ne nl]
    exact h.gl
  · rw [upd_ne nk]
    exact h.gk
theorem IS.sm {K : PySem.W.Frag} {C : Addr} {H0 H' H2 : Hp} {x lt kd dx : Addr} {xs : List V} {kvs : List (Key × V)} {lns : List Ln} {fs : List (Str × V)} (h : IS K C H0 x lt kd dx xs kvs lns fs H') (s : Same H' H2) : IS K C H0 x lt kd dx xs kvs lns fs H2 :=
  ⟨h.s.trans s, s _ _ h.hx, s _ _ h.gl, h.td.mv (Same.tk s), s _ _ h.gk, h.kn.mv (Same.tk s)⟩
theorem KnD.val {K : PySem.W.Frag} {H : Hp} : ∀ {kvs : List (Key × V)} {kn : Kn} {i : Nat} {k : Key} {v : V}, KnD K H kvs kn → kvs[i]? = some (k, v) → ∃ p, kn[i]? = some p ∧ Td K H v (gsD p.2)
  | _, _, i, _, _, .nil, h => by simp at h
  | _, _, 0, _, _, .cons h _, e => by
    cases Option.some.inj e
    exact ⟨_, rfl, h⟩
  | _, _, i + 1, _, _, .cons _ t, e => KnD.val (i := i) t e
section
variable {P : Program} {w : World} {K : PySem.W.Frag} {mg : Str → Option Value} {base : Heap}
def spScrInit (K : PySem.W.Frag) (C : Addr) : Sp := fun vs H Q _ => ∃ (x dx : Addr) (lns : List Ln) (H0 : Hp), vs = [.ref x, .str (textT lns)] ∧ Same H0 H ∧ H0 x = none ∧ H x = some (.ins C dx []) ∧ LnsOk [] lns ∧ (∀ l ∈ lns, LnNice l) ∧ lns ≠ [] ∧ lns.length ≤ 1000 ∧
  ∀ H', Same H0 H' → ScrAt K C H' x lns → Q .non H'
theorem ok_Script_init (T : Txt K mg) (XT : TxtX K mg T) : FnOk P w K mg base CX0 9 T.f_Script_init T.fd_Script_init ["self", "text"] (spScrInit K T.c_Script) := by
  refine T.F_Script_init.ok sc_Script_init (fun vs H Q E h => ?_) (fun cdv A outer s H vs Q E hr h => ?_)
  · obtain ⟨x, dx, lns, H0, rfl, _⟩ := h
    rfl
  · obtain ⟨x, dx, lns, H0, rfl, s0, hx0, hx, ok, nice, hn, h1000, q⟩ := h
    refine ⟨_, (pss_cons (ps_if (pt_not (pt_val (pe_callB call_isi (by rfl) T.n_isinstance (by decide +kernel) (pa_cons (pv 1) (pa_cons (pe_bltn (v := .ty "str") (by rfl) T.n_str (by decide +kernel) rfl) pa_nil))))) pss_dead pss_nil)
  (pss_cons (ps_asg (pe_call (ok_read_script T) (hr.mono (by decide)) (by rfl) T.g_read_script T.F_read_script.kp T.b_read_script .nil pass0 (pa_cons (pv 1) pa_nil)) (pg_tup (by rfl) (pgs_cons (pg_name (i := 2) sc_Script_init.nd rfl (Or.inl rfl)) (pgs_cons (pg_name (i := 3) sc_Script_init.nd rfl (Or.inl rfl)) pgs_nil))))
  (pss_cons (ps_fld (pv 0) (pv 1) rfl)
  (pss_cons (ps_fld (pv 0) (pv 2) rfl)
  (pss_cons (ps_fld (pv 0) (pe_dget (hu_of hr) (pv 3) (pe_ix ix_tup (pe_ix ix_tup (pv 2) (pe_un un_neg pe_int) (fun _ _ => rfl)) pe_int (fun _ _ => rfl)) (fun _ _ => rfl)) rfl)
  (pss_cons (ps_fld (pv 0) (pe_lock (pe_callB (cr_max rfl) (by rfl) T.n_max (by decide +kernel) (pa_cons (pe_lc (own := [("own", 4)]) (g := gName 4) (by rfl) sc_Script_init.nd (pi_values (pv 3)) (blkOk_by (own := [("own", 4)]) (by rfl)) (fun _ _ _ _ _ => (pg_name (i := 4) sc_Script_init.nd rfl (Or.inl rfl))) (fun _ _ _ _ _ => pts_nil) (fun _ _ _ _ _ => (pe_callB (call_len_seqK K) (by rfl) T.n_len PySem.boot_len (pa_cons (pv 4) pa_nil)))) pa_nil))) rfl)
  (pss_cons (ps_fld (pv 0) (pe_not (pe_callB (cr_any rfl) (by rfl) T.n_any (by decide +kernel) (pa_cons (pe_lc (own := [("line", 5)]) (g := gName 5) (by rfl) sc_Script_init.nd (pi_tup (pv 2)) (blkOk_by (own := [("line", 5)]) (by rfl)) (fun _ _ _ _ _ => (pg_name (i := 5) sc_Script_init.nd rfl (Or.inl rfl))) (fun _ _ _ _ _ => pts_nil) (fun _ _ _ _ _ => (pe_cmpR op_eq (pe_ix (ix_tupK K) (pv 5) pe_int (fun _ _ => rfl)) pe_str (nomark _)))) pa_nil))) rfl)
  (pss_one (ps_fld (pv 0) (pv 3) rfl))))))))), ?_⟩
    have wide : ∀ {n : Nat}, n ≤ 10000000 → n ≤ sizeLine := fun h => Nat.le_trans h (by decide)
    refine ⟨_, rfl, _, _, _, _, true, rfl, .ty _, .base (.str _), kit_ty (by decide +kernel), ?_⟩
    refine ⟨_, rfl, ?_⟩
    refine iteF ?_
    refine ⟨_, rfl, lns, rfl, ok, nice, hn, h1000, fun a lt kd xs kvs H1 s1 ga gl td gk kn => ?_⟩
    refine ⟨a, _, rfl, SqT.of ga, rfl, _, _, rfl, _, _, rfl, rfl, ?_⟩
    have hx1 := s1 _ _ hx
    have nl : lt ≠ x := fun e => by
      rw [e, hx1] at gl
      cases gl
    have nk : kd ≠ x := fun e => by
      rw [e, hx1] at gk
      cases gk
    have sA := s0.trans s1
    have I : IS K T.c_Script H0 x lt kd dx xs kvs lns [] H1 := ⟨sA, hx1, gl, td, gk, kn⟩
    refine ⟨_, rfl, _, rfl, x, T.c_Script, dx, [], rfl, I.hx, XT.cl, XT.na1, by show 0 < 1000; decide, ?_⟩
    have I := I.put (fs' := putF "text" (.str (textT lns)) []) hx0 nl nk
    have l1 := putF_le "text" (V.str (textT lns)) []
    generalize upd H1 x (.ins T.c_Script dx (putF "text" (.str (textT lns)) [])) = H2 at *
    obtain ⟨f1, hf1⟩ : ∃ f, f = putF "text" (V.str (textT lns)) [] := ⟨_, rfl⟩
    rw [← hf1] at I l1
    refine ⟨_, rfl, _, rfl, x, T.c_Script, dx, f1, rfl, I.hx, XT.cl, XT.na2, Nat.lt_of_le_of_lt l1 (by show 1 < 1000; decide), ?_⟩
    have I := I.put (fs' := putF "lines" (.ref lt) f1) hx0 nl nk
    have l2 := putF_le "lines" (V.ref lt) f1
    generalize upd H2 x (.ins T.c_Script dx (putF "lines" (.ref lt) f1)) = H3 at *
    obtain ⟨f2, hf2⟩ : ∃ f, f = putF "lines" (V.ref lt) f1 := ⟨_, rfl⟩
    rw [← hf2] at I l2
    have l1 : f1.length ≤ 1 := l1
    obtain ⟨pre, l, el⟩ : ∃ pre l, lns = pre ++ [l] := ⟨_, _, (List.dropLast_concat_getLast hn).symm⟩
    have xn : xs ≠ [] := fun e => by
      have := I.td.lnLen
      rw [e, el] at this
      simp at this
    obtain ⟨ys, v, ex⟩ : ∃ ys v, xs = ys ++ [v] := ⟨_, _, (List.dropLast_concat_getLast xn).symm⟩
    have yl : ys.length = pre.length := by
      have := I.td.lnLen
      rw [ex, el, List.length_append, List.length_append] at this
      simp at this
      exact this
    have hv : xs[pre.length]? = some v := by
      rw [ex, ← yl, List.getElem?_append_right (Nat.le_refl _), Nat.sub_self]
      rfl
    have hl : lns[pre.length]? = some l := by
      rw [el, List.getElem?_append_right (Nat.le_refl _), Nat.sub_self]
      rfl
    obtain ⟨l', hl', hld⟩ := I.td.lnAt hv
    rw [hl] at hl'
    cases Option.some.inj hl'
    obtain ⟨la, lpp, rfl, hla, _⟩ := hld.ln
    have gL := glk_knOf ok hl
    have eG : lastG lns = l.fm.gates (knOf [] (lns.take pre.length)) := by
      unfold lastG
      rw [show lns.getLast? = some l by rw [el]; simp]
      show (glk (knOf [] lns) l.nm).getD [] = _
      rw [gL]
      rfl
    obtain ⟨gv, gv1, gv2⟩ := I.kn.get gL
    obtain ⟨g0, rfl, gv3⟩ := gv2.gs
    have aL : atI xs (-1) = some (.ref la) := by
      rw [ex]
      exact atI_last _ _
    refine ⟨_, rfl, _, rfl, _, rfl, lt, xs, -1, .ref la, rfl, rfl, SqT.of I.gl, aL, la, _, 0, .str l.nm, rfl, rfl, hla, rfl, kd, .ref g0, rfl, .inl ⟨kvs, .inr l.nm, .inl I.gk, rfl, gv1.symm⟩, ?_⟩
    refine ⟨_, rfl, x, T.c_Script, dx, f2, rfl, I.hx, XT.cl, XT.na3, Nat.lt_of_le_of_lt (Nat.le_trans l2 (Nat.succ_le_succ l1)) (by decide), ?_⟩
    have gv4 := gv2.mv (tk_ins (o := .ins T.c_Script dx (putF "gates" (.ref g0) f2)) I.hx)
    have I := I.put (fs' := putF "gates" (.ref g0) f2) hx0 nl nk
    have l3 := putF_le "gates" (V.ref g0) f2
    generalize upd H3 x (.ins T.c_Script dx (putF "gates" (.ref g0) f2)) = H4 at *
    obtain ⟨f3, hf3⟩ : ∃ f, f = putF "gates" (V.ref g0) f2 := ⟨_, rfl⟩
    rw [← hf3] at I l3
    have l3 : f3.length ≤ 3 := by omega
    refine ⟨kd, .dK kvs, I.gk, trivial, fun od => ?_⟩
    have f0 : (upd H4 kd (.frz od (.dK kvs))) kd = some (.frz od (.dK kvs)) := upd_same
    have k0 : TK H4 (upd H4 kd (.frz od (.dK kvs))) := tk_dK I.gk
    have o0 : ∀ b o, b ≠ kd → H4 b = some o → (upd H4 kd (.frz od (.dK kvs))) b = some o := fun b o n e => by
      rw [upd_ne n]
      exact e
    generalize upd H4 kd (.frz od (.dK kvs)) = HL at *
    refine ⟨_, rfl, kd, od, kvs, rfl, f0, fun D hD => ?_⟩
    have nDk : D ≠ kd := fun e => by
      rw [e, f0] at hD
      cases hD
    let ns : List Int := ((knOf [] lns).map (·.2.length)).map Int.ofNat
    have nl' : ns.length = kvs.length := by
      show (((knOf [] lns).map (·.2.length)).map Int.ofNat).length = kvs.length
      rw [List.length_map, List.length_map, I.kn.len]
    have kl : kvs.length = lns.length := by
      rw [I.kn.len, knOf_len]
      simp
    refine lc_it walk_values (fun i H' => Same HL H' ∧ H' D = some (.lst ((ns.take i).map V.int))) ⟨same_new hD, upd_same⟩ (fun i H' _ ⟨s, _⟩ => s _ _ f0) ?_ ?_
    · rintro i v H' H'' hi ⟨s, g⟩ ⟨rfl, k, hk⟩
      obtain ⟨p, hp, hpv⟩ := I.kn.val hk
      obtain ⟨va, rfl, hva⟩ := hpv.gs
      refine ⟨rfl, ?_⟩
      refine ⟨_, rfl, va, _, rfl, .inr (SqT.tk hva (k0.trans (Same.tk s))), _, g, ?_, fun b o e => ?_, ?_⟩
      · rw [List.length_map, List.length_take]
        exact Nat.lt_of_le_of_lt (show min i ns.length ≤ 1000 by omega) (by decide)
      · rw [upd_ne (ne_of_none e hD)]
        exact s _ _ e
      · rw [upd_same, take_more (l := ns) (i := i) (x := (p.2.length : Int)) (by
          show (((knOf [] lns).map (·.2.length)).map Int.ofNat)[i]? = _
          rw [List.getElem?_map, List.getElem?_map, hp]
          rfl), List.map_append, List.length_map]
        rfl
    rintro H5 ⟨s5, g5⟩
    rw [← nl', List.take_length] at g5
    refine ⟨D, ns, rfl, SqL.of g5, ?_, fun m hm hh => ?_⟩
    · rw [nl', kl]
      exact List.length_pos_iff.mpr hn
    rw [max_is rfl hm hh]
    refine ⟨s5 _ _ f0, ?_⟩
    have sU : Same H4 (upd H5 kd (.dK kvs)) := fun b o e => by
      by_cases n : b = kd
      · rw [n, I.gk] at e
        rw [n, upd_same]
        exact e
      · rw [upd_ne n]
        exact s5 _ _ (o0 b o n e)
    have I := I.sm sU
    have gv4 := gv4.mv (Same.tk sU)
    generalize upd H5 kd (.dK kvs) = H6 at *
    refine ⟨_, rfl, x, T.c_Script, dx, f3, rfl, I.hx, XT.cl, XT.na4, Nat.lt_of_le_of_lt l3 (by decide), ?_⟩
    have gv4 := gv4.mv (tk_ins (o := .ins T.c_Script dx (putF "width" (.int (widthL lns : Nat)) f3)) I.hx)
    have I := I.put (fs' := putF "width" (.int (widthL lns : Nat)) f3) hx0 nl nk
    have l4 := putF_le "width" (V.int (widthL lns : Nat)) f3
    have e5 : upd H6 x (.ins T.c_Script dx (putF "width" (.int ((((knOf [] lns).map (·.2.length)).foldl max 0 : Nat) : Int)) f3)) = upd H6 x (.ins T.c_Script dx (putF "width" (.int (widthL lns : Nat)) f3)) := rfl
    rw [e5]
    generalize upd H6 x (.ins T.c_Script dx (putF "width" (.int (widthL lns : Nat)) f3)) = H7 at *
    obtain ⟨f4, hf4⟩ : ∃ f, f = putF "width" (V.int (widthL lns : Nat)) f3 := ⟨_, rfl⟩
    rw [← hf4] at I l4
    have l4 : f4.length ≤ 4 := by omega
    refine ⟨_, rfl, lt, rfl, ⟨_, SqT.of I.gl⟩, fun D2 hD2 => ?_⟩
    have xl : xs.length = lns.length := I.td.lnLen
    refine lc_tup (K := K) (a := lt) (xs := xs) (fun i H' => Same H7 H' ∧ H' D2 = some (.lst (((lns.map fun l => decide (l.fm.word = ("add" : Str))).take i).map V.bl))) ⟨same_new hD2, upd_same⟩ (fun i H' _ ⟨s, _⟩ => SqT.of (s _ _ I.gl)) ?_ ?_
    · rintro i v H' hv ⟨s, g⟩
      obtain ⟨l2, hl2, hd2⟩ := I.td.lnAt hv
      obtain ⟨a2, p2, rfl, ha2, _⟩ := hd2.ln
      refine ⟨rfl, ?_⟩
      refine ⟨_, rfl, a2, _, 1, .str l2.fm.word, rfl, rfl, SqT.tk ha2 (Same.tk s), rfl, rfl, _, g, ?_, fun b o e => ?_, ?_⟩
      · rw [List.length_map, List.length_take, List.length_map]
        exact Nat.lt_of_le_of_lt (show min i lns.length ≤ 1000 by omega) (by decide)
      · rw [upd_ne (ne_of_none e hD2)]
        exact s _ _ e
      · rw [upd_same, take_more (l := lns.map fun l => decide (l.fm.word = ("add" : Str))) (i := i) (x := decide (l2.fm.word = ("add" : Str))) (by rw [List.getElem?_map, hl2]; rfl), List.map_append]
        rw [show decide (V.str l2.fm.word = V.str (Str.ofString "add")) = decide (l2.fm.word = ("add" : Str)) from decide_eq_decide.mpr ⟨V.str.inj, congrArg V.str⟩]
        rfl
    rintro H8 ⟨s8, g8⟩
    rw [xl, show lns.length = (lns.map fun l => decide (l.fm.word = ("add" : Str))).length by rw [List.length_map], List.take_length] at g8
    refine ⟨D2, _, rfl, SqL.of g8, _, rfl, ?_⟩
    have I := I.sm s8
    have gv4 := gv4.mv (Same.tk s8)
    refine ⟨_, rfl, x, T.c_Script, dx, f4, rfl, I.hx, XT.cl, XT.na5, Nat.lt_of_le_of_lt l4 (by decide), ?_⟩
    have gv4 := gv4.mv (tk_ins (o := .ins T.c_Script dx (putF "is_plain" (.bl (plainL lns)) f4)) I.hx)
    have I := I.put (fs' := putF "is_plain" (.bl (plainL lns)) f4) hx0 nl nk
    have l5 := putF_le "is_plain" (V.bl (plainL lns)) f4
    have e9 : upd H8 x (.ins T.c_Script dx (putF "is_plain" (.bl (!(lns.map fun l => decide (l.fm.word = ("add" : Str))).any id)) f4)) = upd H8 x (.ins T.c_Script dx (putF "is_plain" (.bl (plainL lns)) f4)) := rfl
    rw [e9]
    generalize upd H8 x (.ins T.c_Script dx (putF "is_plain" (.bl (plainL lns)) f4)) = H9 at *
    obtain ⟨f5, hf5⟩ : ∃ f, f = putF "is_plain" (V.bl (plainL lns)) f4 := ⟨_, rfl⟩
    rw [← hf5] at I l5
    have l5 : f5.length ≤ 5 := by omega
    refine ⟨_, rfl, _, rfl, x, T.c_Script, dx, f5, rfl, I.hx, XT.cl, XT.na6, Nat.lt_of_le_of_lt l5 (by decide), ?_⟩
    have gv4 := gv4.mv (tk_ins (o := .ins T.c_Script dx (putF "_gates_by_name" (.ref kd) f5)) I.hx)
    have I := I.put (fs' := putF "_gates_by_name" (.ref kd) f5) hx0 nl nk
    have l6 := putF_le "_gates_by_name" (V.ref kd) f5
    generalize upd H9 x (.ins T.c_Script dx (putF "_gates_by_name" (.ref kd) f5)) = H10 at *
    have lk : ∀ k : Str, (putF "_gates_by_name" (V.ref kd) f5).lookup k = if k = ("_gates_by_name" : Str) then some (.ref kd) else if k = ("is_plain" : Str) then some (.bl (plainL lns)) else if k = ("width" : Str) then some (.int (widthL lns : Nat)) else
        if k = ("gates" : Str) then some (.ref g0) else if k = ("lines" : Str) then some (.ref lt) else if k = ("text" : Str) then some (.str (textT lns)) else none := fun k => by
      rw [lookup_putF, hf5, lookup_putF, hf4, lookup_putF, hf3, lookup_putF, hf2, lookup_putF, hf1, lookup_putF]
      rfl
    refine q H10 I.s ⟨dx, lt, kd, g0, _, xs, kvs, I.hx, by omega, ?_, ?_, I.gl, I.td, ?_, ?_, ?_, ?_, ?_, I.gk, I.kn, ?_⟩
    · rw [lk, if_neg (by decide +kernel), if_neg (by decide +kernel), if_neg (by decide +kernel), if_neg (by decide +kernel), if_neg (by decide +kernel), if_pos rfl]
    · rw [lk, if_neg (by decide +kernel), if_neg (by decide +kernel), if_neg (by decide +kernel), if_neg (by decide +kernel), if_pos rfl]
    · rw [lk, if_neg (by decide +kernel), if_neg (by decide +kernel), if_neg (by decide +kernel), if_pos rfl]
    · rw [eG]
      exact gv4
    · rw [lk, if_neg (by decide +kernel), if_neg (by decide +kernel), if_pos rfl]
    · rw [lk, if_neg (by decide +kernel), if_pos rfl]
    · rw [lk, if_pos rfl]
    · rw [lk, if_neg (by decide +kernel), if_neg (by decide +kernel), if_neg (by decide +kernel), if_neg (by decide +kernel), if_neg (by decide +kernel), if_neg (by decide +kernel)]
end
end OG
set_option Elab.async false
set_option linter.all false
set_option maxRecDepth 100000
set_option maxHeartbeats 8000000
namespace OG
open PySem PySem.Spec PyProof.Rows L2
/-- what a text or another value is -/
def NearV (H : Hp) : V → Prop
  | .non => True
  | .bl _ => True
  | .int _ => True
  | .str z => z.length ≤ 900000
  | .ref a => (∃ xs, H a = some (.lst xs)) ∨ (∃ xs, H a = some (.tup xs)) ∨ ∃ kvs, H a = some (.dK kvs)
  | _ => False
theorem NearV.same {H H' : Hp} (s : Same H H') : ∀ {v : V}, NearV H v → NearV H' v
  | .non, h => h
  | .bl _, h => h
  | .int _, h => h
  | .str _, h => h
  | .ref a, h => by
    rcases h with ⟨xs, h⟩ | ⟨xs, h⟩ | ⟨xs, h⟩
    · exact .inl ⟨xs, s _ _ h⟩
    · exact .inr (.inl ⟨xs, s _ _ h⟩)
    · exact .inr (.inr ⟨xs, s _ _ h⟩)
def isStr : V → Bool
  | .str _ => true
  | _ => false
/-- isinstance(v, str) -/
theorem isi_ty {K : PySem.W.Frag} {H : Hp} : ∀ {v : V}, NearV H v → ∃ t, TyX K H v t ∧ PySem.W.kitOne K t (.type "str") = some (isStr v)
  | .non, _ => ⟨_, .base .non, kit_ty (r := false) (by decide +kernel)⟩
  | .bl b, _ => ⟨_, .base (.bl b), kit_ty (r := false) (by decide +kernel)⟩
  | .int i, _ => ⟨_, .base (.int i), kit_ty (r := false) (by decide +kernel)⟩
  | .str z, _ => ⟨_, .base (.str z), kit_ty (r := true) (by decide +kernel)⟩
  | .ref a, h => by
    rcases h with ⟨xs, h⟩ | ⟨xs, h⟩ | ⟨xs, h⟩
    · exact ⟨_, .base (.lst h), kit_ty (r := false) (by decide +kernel)⟩
    · exact ⟨_, .base (.tup h), kit_ty (r := false) (by decide +kernel)⟩
    · exact ⟨_, .base (.dK h), kit_ty (r := false) (by decide +kernel)⟩
end OG
set_option Elab.async false
set_option linter.all false
set_option maxRecDepth 100000
set_option maxHeartbeats 8000000
namespace OG
open PySem PySem.Spec PyProof.Rows L2
/-- is a value the name of a line -/
def inL (v : V) (lns : List Ln) : Bool := match v with
  | .str z => decide (z ∈ lns.map (·.nm))
  | _ => false
theorem ScrAt.has {K : PySem.W.Frag} {H : Hp} {kvs : List (Key × V)} {lns : List Ln} (h : KnD K H kvs (knOf [] lns)) (z : Str) : (valV kvs (.inr z)).isSome = decide (z ∈ lns.map (·.nm)) := by
  rw [h.has z, knOf_names]
  rfl
section
variable {P : Program} {w : World} {K : PySem.W.Frag} {mg : Str → Option Value} {base : Heap}
def spLenS (K : PySem.W.Frag) (C : Addr) : Sp := fun vs H Q _ => ∃ (x : Addr) (lns : List Ln), vs = [.ref x] ∧ ScrAt K C H x lns ∧ Q (.int (lns.length : Int)) H
theorem ok_Script_len (T : Txt K mg) (XT : TxtX K mg T) : FnOk P w K mg base (L2.CX P w) 1 T.f_Script_len T.fd_Script_len ["self"] (spLenS K T.c_Script) := by
  refine T.F_Script_len.okX sc_Script_len (fun vs H Q E h => ?_) (fun cdv A outer s H vs Q E hr h => ?_)
  · obtain ⟨x, lns, rfl, _⟩ := h
    rfl
  · obtain ⟨x, lns, rfl, hX, q⟩ := h
    refine ⟨_, (pss_one (ps_ret (pe_callB call_len_seq (by rfl) T.n_len PySem.boot_len (pa_cons (pe_fld (pv 0) rfl) pa_nil)))), ?_⟩
    obtain ⟨dx, lt, kd, ga, fs, xs, kvs, hx, _, f1, f2, gl, td, f3, g3, f4, f5, f6, gk, kn, f7⟩ := hX
    refine ⟨.ref x, rfl, x, T.c_Script, dx, fs, _, rfl, hx, XT.cl, XT.na2, f2, ?_⟩
    refine ⟨lt, _, rfl, .inr (SqT.of gl), ?_⟩
    rw [td.lnLen]
    exact q
def spHasS (K : PySem.W.Frag) (C : Addr) : Sp := fun vs H Q _ => ∃ (x : Addr) (v : V) (lns : List Ln), vs = [.ref x, v] ∧ NearV H v ∧ ScrAt K C H x lns ∧ Q (.bl (inL v lns)) H
theorem ok_Script_contains (T : Txt K mg) (XT : TxtX K mg T) : FnOk P w K mg base (L2.CX P w) 1 T.f_Script_contains T.fd_Script_contains ["self", "value"] (spHasS K T.c_Script) := by
  refine T.F_Script_contains.okX sc_Script_contains (fun vs H Q E h => ?_) (fun cdv A outer s H vs Q E hr h => ?_)
  · obtain ⟨x, v, lns, rfl, _⟩ := h
    rfl
  · obtain ⟨x, v, lns, rfl, hv, hX, q⟩ := h
    refine ⟨_, (pss_one (ps_ret (pe_and (pe_callB call_isi (by rfl) T.n_isinstance (by decide +kernel) (pa_cons (pv 1) (pa_cons (pe_bltn (v := .ty "str") (by rfl) T.n_str (by decide +kernel) rfl) pa_nil))) (pe_one (pe_cmp (pc_din (hu_of hr) (pv 1) (pe_fld (pv 0) rfl)) rfl))))), ?_⟩
    obtain ⟨dx, lt, kd, ga, fs, xs, kvs, hx, _, f1, f2, gl, td, f3, g3, f4, f5, f6, gk, kn, f7⟩ := hX
    obtain ⟨t, ty, kt⟩ := isi_ty (K := K) hv
    refine ⟨v, rfl, _, _, t, _, _, rfl, .ty _, ty, kt, ?_⟩
    refine ⟨_, rfl, ?_⟩
    by_cases hs : ∃ s, v = .str s
    case neg =>
      have e2 : isStr v = false := by
        cases v <;> first | rfl | exact absurd ⟨_, rfl⟩ hs
      have e3 : inL v lns = false := by
        cases v <;> first | rfl | exact absurd ⟨_, rfl⟩ hs
      rw [e3] at q
      rw [e2]
      exact q
    case pos =>
      obtain ⟨s, rfl⟩ := hs
      refine ⟨.str s, rfl, .ref x, rfl, x, T.c_Script, dx, fs, _, rfl, hx, XT.cl, XT.na6, f6, ?_⟩
      refine ⟨kd, valV kvs (.inr s), rfl, .inl ⟨kvs, .inr s, .inl gk, rfl, rfl⟩, ?_⟩
      rw [ScrAt.has kn s]
      exact q
end
end OG
set_option Elab.async false
set_option linter.all false
set_option maxRecDepth 100000
set_option maxHeartbeats 4000000
namespace OGX
open PySem PySem.Spec PyProof.Rows L2 HT
theorem back_bounds (n : Nat) : Builtin.Slice.sliceAdjust none none (-1) (n : Int) = ((n : Int) - 1, -1) := rfl
theorem back_places (n : Nat) : Builtin.Slice.slicePlaces ((n : Int) - 1) (-1) (-1) = n := by
  unfold Builtin.Slice.slicePlaces
  rw [if_neg (by decide)]
  by_cases h : n = 0
  · subst h
    rfl
  · rw [if_pos (by omega)]
    have e : ((n : Int) - 1 - -1 - 1) / (- -1) + 1 = (n : Int) := by
      rw [show (- -1 : Int) = 1 from rfl, Int.ediv_one]
      omega
    rw [e]
    rfl
theorem back_pick (xs : Array Value) : ((List.range xs.size).filterMap fun (m : Nat) => xs[(((xs.size : Int) - 1) + (m : Int) * -1).toNat]?).toArray = xs.toList.reverse.toArray := by
  have e : (fun (m : Nat) => xs[(((xs.size : Int) - 1) + (m : Int) * -1).toNat]?) = (fun i => xs[i]?) ∘ fun m => xs.size - 1 - m := by
    funext m
    show _ = xs[xs.size - 1 - m]?
    rw [show (((xs.size : Int) - 1) + (m : Int) * -1).toNat = xs.size - 1 - m by omega]
  rw [e, ← List.filterMap_map, PySem.W.krv_range, List.filterMap_reverse, PySem.W.krv_all]
section
variable {P : Program} {w : World} {A : Around} {E : Value → Shared → Prop} {s : Shared} {t sl : Addr} {items : Array Value}
theorem applied_back {t1 : Tok} {n : Nat} {Q : Int × Int × Nat → Shared → Prop} (hs : s.heap.IsSliceOf sl .none .none (.int (-1) t1)) (q : Q ((n : Int) - 1, -1, n) s) : wpAny (model P w) A (Builtin.Slice.sliceApplied (.ref sl) (pure (n : Int))) Q E s := by
  obtain ⟨o, ho, hc, hd⟩ := id hs
  unfold Builtin.Slice.sliceApplied Builtin.Slice.sliceFields
  refine wpAny_bind (wpAny_bind (wpAny_field ho hd (x := .none) rfl (wpAny_bind (wpAny_field ho hd (x := .none) rfl (wpAny_bind (wpAny_field ho hd (x := .int (-1) t1) rfl (wpAny_pure ?_)))))))
  refine wpAny_bind (slicePart_ (.int (-1) t1) ?_)
  change wpAny _ _ (if ((-1 : Int) == 0) = true then _ else _) _ _ s
  rw [if_neg (by decide)]
  refine wpAny_bind (slicePart_ .none (wpAny_bind (slicePart_ .none (wpAny_bind (wpAny_pure ?_)))))
  change wpAny _ _ (match Builtin.Slice.sliceAdjust none none (-1) (n : Int) with | (lo, hi) => pure (lo, (-1 : Int), Builtin.Slice.slicePlaces lo hi (-1))) _ _ s
  rw [back_bounds]
  change wpAny _ _ (pure ((n : Int) - 1, (-1 : Int), Builtin.Slice.slicePlaces ((n : Int) - 1) (-1) (-1))) _ _ s
  rw [back_places]
  exact wpAny_pure q
theorem item_back {t1 : Tok} {Q : Value → Shared → Prop} (ht : IsTup s.heap t items) (hs : s.heap.IsSliceOf sl .none .none (.int (-1) t1)) (hz : items.size ≤ sizeLine)
    (q : Q (.ref s.heap.objs.size) { s with heap := s.heap.push { cls := .type "tuple", data := .seq items.toList.reverse.toArray } }) : wpAny (model P w) A (getItem (.ref t) (.ref sl)) Q E s := by
  have fits : sizeOk (.seq items.toList.reverse.toArray) := by
    show items.toList.reverse.toArray.size ≤ sizeLine
    rw [List.size_toArray, List.length_reverse, Array.length_toList]
    exact hz
  obtain ⟨o, ho, hc, hd⟩ := id hs
  have ty : s.TypeIs (.ref sl) "slice" := ⟨o, ho, hc⟩
  unfold getItem
  try with_reducible refine wpAny_holding ?_
  first | refine wpAny_bind (wpAny_pure ?_) | skip
  refine wpAny_bind (wpAny_sequenceKey ht.typeIs (by decide) ?_)
  refine wpAny_bind (wpAny_callSpecial?_slot (name := Str.ofString "__getitem__") ht.typeIs PyProof.Rows.slot_tuple_getitem (wpAny_call_entry PyProof.Rows.slot_tuple_getitem ht.typeIs entry_tuple_getitem ?_ (args_tuple_getitem _ _)))
  change wpAny _ _ (Builtin.Tuple.tupleItemsOf (.ref t) >>= _) _ _ s
  refine wpAny_bind (tupleItemsOf_ ht (wpAny_bind (wpAny_typeOf ty ?_)))
  rw [if_pos (by decide)]
  refine wpAny_bind (applied_back hs ?_)
  change wpAny _ _ (if (((items.size : Int) - 1) == 0 && (-1 : Int) == 1 && items.size == items.size) = true then _ else _) _ _ s
  rw [if_neg (by simp), back_pick]
  first
    | exact wpAny_bind (m := Builtin.Tuple.tupleExact _) (wpAny_newObj_type (wpAny_pure ⟨_, rfl, wpAny_pure q⟩) fits)
    | exact wpAny_bind (m := Builtin.Tuple.tupleExact _) (wpAny_newObj_type (wpAny_bind (wpAny_pure (wpAny_pure ⟨_, rfl, wpAny_pure q⟩))) fits)
    | exact wpAny_bind (wpAny_bind (m := Builtin.Tuple.tupleExact _) (wpAny_newObj_type (wpAny_pure (wpAny_pure ⟨_, rfl, wpAny_pure q⟩)) fits))
    | exact wpAny_bind (wpAny_bind (m := Builtin.Tuple.tupleExact _) (wpAny_newObj_type (wpAny_pure ⟨_, rfl, wpAny_pure q⟩) fits))
end
/-- t[::-1], t a tuple -/
def tRevT (K : PySem.W.Frag) (te : TE) : TE := fun σ H Q => te σ H fun x H1 => ∃ a xs, x = .ref a ∧ SqT K H1 a xs ∧ ∀ p, H1 p = none → Q (.ref p) (upd H1 p (.tup xs.reverse))
theorem pe_revT {X : Cx} {e : Expr} {te : TE} {k : Nat} {p1 p2 p3 pos : Pos} (he : PE X e te) : PE X (.Subscript e (.Slice none none (some (.UnaryOp .USub (.Constant (.int 1) k p1) p2)) p3) pos) (tRevT X.K te) := by
  constructor
  intro pins s σ H Q I h
  refine Subscript_ (thn (he.run pins s σ H _ I h) fun v s1 hv => ?_)
  obtain ⟨_, H1, I1, r1, a, xs, rfl, hx, q⟩ := hv
  cases r1
  have st : PO X (some (.UnaryOp .USub (.Constant (.int 1) k p1) p2)) (tPart (tUn (rU fun i => .int (-i)) (tC (.int 1)))) := po_some (pe_un un_neg pe_int)
  refine wpAny_Slice (thn (po_none.run pins s1 σ H1 (fun o H2 => o = none ∧ H2 = H1) I1 ⟨rfl, rfl⟩) fun vl s2 h2 => ?_)
  obtain ⟨_, H2, I2, pl, rfl, e2⟩ := h2
  have e2 := e2.symm
  subst e2
  refine thn (po_none.run pins s2 σ _ (fun o H3 => o = none ∧ H3 = H1) I2 ⟨rfl, rfl⟩) fun vu s3 h3 => ?_
  obtain ⟨_, H3, I3, pu, rfl, e3⟩ := h3
  have e3 := e3.symm
  subst e3
  refine thn (st.run pins s3 σ _ (fun o H4 => o = some (-1) ∧ H4 = H1) I3 ⟨1, rfl, -1, rfl, rfl, rfl⟩) fun vs s4 h4 => ?_
  obtain ⟨_, H4, I4, ps, rfl, e4⟩ := h4
  have e4 := e4.symm
  subst e4
  cases pl
  cases pu
  cases ps with
  | int _ t1 =>
  have I5 : Inv X pins σ H1 { s4 with heap := s4.heap.push { cls := .type "slice", data := .fields #[.none, .none, .int (-1) t1] } } := I4.kept (t' := s4.toks) fun b ob q => Heap.get?_push_of_some _ q
  obtain ⟨its, r, ht, hz⟩ := I5.tuple hx
  have hl := r.length
  change wpAny (model X.prog X.w) X.A (subscriptTail e (.Slice none none (some (.UnaryOp .USub (.Constant (.int 1) k p1) p2)) p3) (.ref a) (.ref s4.heap.objs.size)) (EP X pins σ Q) X.xe { s4 with heap := s4.heap.push { cls := .type "slice", data := .fields #[.none, .none, .int (-1) t1] } }
  refine tail_any (ops := [.ref a, .ref s4.heap.objs.size]) ht.typeIs PyProof.Rows.slot_tuple_getitem.lookup ?_ (by with_unfolding_all rfl)
  refine item_back ht (Heap.IsSliceOf.new _ .none .none (.int (-1) t1)) (by rw [List.size_toArray]; omega) ?_
  refine ⟨.ref _, _, I5.laid (t' := s4.toks) (o := .tup xs.reverse) (fun b ob q => Heap.get?_push_of_some _ q) (Nat.le_refl _) ?_, rfl, q _ (I5.hok.fresh (Nat.le_refl _))⟩
  refine ⟨by rw [List.length_reverse]; exact hz, its.reverse, r.reverse, _, Heap.get?_push_size _ rfl, rfl, 0, ?_⟩
  simp
end OGX
set_option Elab.async false
set_option linter.all false
set_option maxRecDepth 100000
set_option maxHeartbeats 8000000
namespace OG
open PySem PySem.Spec PyProof.Rows L2 OGX
def zzN (n : Nat) : Str := "zz" ++ istr (n : Int)
theorem zz_ok : ((List.range 21).all fun n => decide (keyN (zzN n) = n) && (lnmB (zzN n) && (decide (1 ≤ (zzN n).length) && decide ((zzN n).length ≤ 8)) && (tl (zzN n)).all niceC)) = true := by decide +kernel
theorem zz_at {n : Nat} (h : n < 21) : NmAt n (zzN n) := by
  have := List.all_eq_true.mp zz_ok n (List.mem_range.mpr h)
  simp only [Bool.and_eq_true, decide_eq_true_eq, List.all_eq_true] at this
  exact ⟨this.1, this.2.1.1, this.2.1.2, this.2.2⟩
theorem cut_init (ys : List V) (v : V) : cutV (ys ++ [v]) none (some (-1)) = ys := by
  unfold cutV
  have e1 : HT.sIx (ys ++ [v]).length 0 none = 0 := rfl
  have e2 : HT.sIx (ys ++ [v]).length (ys ++ [v]).length (some (-1)) = ys.length := by
    rw [List.length_append]
    show (-1 + ((ys.length + 1 : Nat) : Int)).toNat = ys.length
    omega
  rw [e1, e2, List.drop_zero, Nat.sub_zero, List.take_left]
theorem L9.init {pre : List Ln} {l : Ln} {n : Nat} (h : L9 (pre ++ [l]) n) : L9 pre (n - 1) := by
  have e : (pre ++ [l]).take pre.length = pre := List.take_left
  refine ⟨?_, ?_, fun j l' hj => h.at' j l' ?_, fun l' hl => h.nice l' (List.mem_append_left _ hl)⟩
  · have := h.ok.take pre.length
    rwa [e] at this
  · have := h.len
    rw [List.length_append] at this
    simp at this
    omega
  · rw [List.getElem?_append_left (List.getElem?_eq_some_iff.mp hj).1]
    exact hj
section
variable {P : Program} {w : World} {K : PySem.W.Frag} {mg : Str → Option Value} {base : Heap}
def spOther (K : PySem.W.Frag) : Sp := fun vs H Q _ => ∃ (p lp : Addr) (xs : List V) (lns : List Ln) (n k : Nat), vs = [.ref p, .ref lp] ∧ H lp = some (.lst xs) ∧ lp ≠ p ∧ TdAll K H xs (lns.map Ln.data) ∧ L9 lns n ∧ 1 ≤ n ∧ n ≤ 20 ∧ Pot (k + 5) H p ∧
  ∀ (lp' : Addr) (xs' : List V) (lns' : List Ln) (n' : Nat) (H' : Hp), Dr p k H H' → H lp' = none → lp' ≠ p → H' lp' = some (.lst xs') → TdAll K H' xs' (lns'.map Ln.data) → L9 lns' n' → 1 ≤ n' → n' ≤ 21 → Q (.ref lp') H'
theorem ok_l_other_lines (T : Txt K mg) : FnOk P w K mg base CX0 3 T.f_l_other_lines T.fd_l_other_lines ["pot", "lines"] (spOther K) := by
  refine T.F_l_other_lines.ok sc_l_other_lines (fun vs H Q E h => ?_) (fun cdv A outer s H vs Q E hr h => ?_)
  · obtain ⟨p, lp, xs, lns, n, k, rfl, _⟩ := h
    rfl
  · obtain ⟨p, lp, xs, lns, n, k, rfl, gl, nlp, td, L, n1, n20, hP, q⟩ := h
    refine ⟨_, (pss_cons (ps_par (i := 2) (j := 3) (by rfl) sc_l_other_lines.nd rfl rfl (by decide) rfl rfl (pa_cons (pe_call (ok_l_take T) (hr.mono (by decide)) (by rfl) T.g_l_take T.F_l_take.kp T.b_l_take .nil pass0 (pa_cons (pv 0) (pa_cons pe_int pa_nil))) (pa_cons (pe_ix ix_list (pv 1) (pe_un un_neg pe_int) (fun _ _ => rfl)) pa_nil)) (by rfl))
  (pss_cons (ps_if (OGX.pt_cut (PW.pt (pw_and (pt_cmpR op_eq (pv 2) pe_int (nomark _)) (pw_and1 (pt_cmpR op_gt (pe_callB call_len_seq (by rfl) T.n_len PySem.boot_len (pa_cons (pv 1) pa_nil)) pe_int (nomark _)))))) (pss_one (ps_ret (pe_slice sl_list (pv 1) po_none (po_some (pe_un un_neg pe_int))))) pss_nil)
  (pss_cons (ps_if (OGX.pt_cut (PW.pt (pw_and (pt_cmpR op_eq (pv 2) pe_int (nomark _)) (pw_and1 (pt_cmpR op_eq (pe_ix ix_tup (pv 3) pe_int (fun _ _ => rfl)) pe_str (nomark _)))))) (pss_one (ps_ret (pe_op op_cat (pe_slice sl_list (pv 1) po_none (po_some (pe_un un_neg pe_int))) (pe_lst (pa_cons (pe_tup (pa_cons (pe_ix ix_tup (pv 3) pe_int (fun _ _ => rfl)) (pa_cons pe_str (pa_cons (OGX.pe_revT (pe_ix ix_tup (pv 3) pe_int (fun _ _ => rfl))) pa_nil)))) pa_nil))))) pss_nil)
  (pss_one (ps_ret (pe_op op_cat (pv 1) (pe_lst (pa_cons (pe_tup (pa_cons (pe_op op_add_str pe_str (pe_callTy call_str_int (by rfl) T.n_str (by decide +kernel) (pa_cons (pe_callB call_len_seq (by rfl) T.n_len PySem.boot_len (pa_cons (pv 1) pa_nil)) pa_nil))) (pa_cons pe_str (pa_cons (pe_tup (pa_cons (pe_op op_add pe_int (pe_call (ok_l_take T) (hr.mono (by decide)) (by rfl) T.g_l_take T.F_l_take.kp T.b_l_take .nil pass0 (pa_cons (pv 0) (pa_cons pe_int pa_nil)))) pa_nil)) pa_nil)))) pa_nil)))))))), ?_⟩
    have wide : ∀ {n : Nat}, n ≤ 1000 → n ≤ sizeLine := fun h => Nat.le_trans h (by decide)
    have hn : lns ≠ [] := fun e => by
      have := L.len
      rw [e] at this
      simp at this
      omega
    obtain ⟨pre, l, el⟩ : ∃ pre l, lns = pre ++ [l] := ⟨_, _, (List.dropLast_concat_getLast hn).symm⟩
    subst el
    have xl := td.lnLen
    rw [L.len] at xl
    have xn : xs ≠ [] := fun e => by
      rw [e] at xl
      simp at xl
      omega
    obtain ⟨ys, v, ex⟩ : ∃ ys v, xs = ys ++ [v] := ⟨_, _, (List.dropLast_concat_getLast xn).symm⟩
    subst ex
    have ln := L.len
    rw [List.length_append] at ln xl
    have yl : ys.length = pre.length := by
      simp at ln xl
      omega
    have hl : (pre ++ [l])[pre.length]? = some l := by
      rw [List.getElem?_append_right (Nat.le_refl _), Nat.sub_self]
      rfl
    have hv : (ys ++ [v])[pre.length]? = some v := by
      rw [← yl, List.getElem?_append_right (Nat.le_refl _), Nat.sub_self]
      rfl
    have lo := L.ok.at hl
    rw [List.take_left] at lo
    obtain ⟨l', hl', hld⟩ := td.lnAt hv
    rw [hl] at hl'
    cases Option.some.inj hl'
    obtain ⟨la, lpp, rfl, hla, hpp⟩ := hld.ln
    have tdI : ∀ {H' : Hp}, TK H H' → TdAll K H' ys (pre.map Ln.data) := by
      intro H' t
      have gen : ∀ {ys : List V} {ds : List PyData} {v : V} {d : PyData}, ys.length = ds.length → TdAll K H' (ys ++ [v]) (ds ++ [d]) → TdAll K H' ys ds := by
        intro ys
        induction ys with
        | nil =>
          intro ds v d e _
          cases ds with
          | nil => exact .nil
          | cons d r => cases e
        | cons y r ih =>
          intro ds v d e h
          cases ds with
          | nil => cases e
          | cons d' r' =>
            cases h with
            | cons h1 h2 => exact .cons h1 (ih (Nat.succ.inj e) h2)
      have h := td.mv t
      rw [List.map_append] at h
      exact gen (by rw [List.length_map, yl]) h
    refine ⟨_, rfl, p, 3, k + 4, rfl, hP, by decide, by decide, fun r H1 r0 r1 d1 => ?_⟩
    have gl1 := d1.st nlp gl
    have tk1 := d1.tk hP
    refine ⟨_, rfl, _, rfl, lp, ys ++ [.ref la], -1, .ref la, rfl, rfl, SqL.of gl1, atI_last _ _, _, _, rfl, ?_⟩
    refine ⟨fun b H' => H' = H1 ∧ (b = true → 2 ≤ n), fun b H' ⟨eH, hb⟩ => ?_, ?_⟩
    rotate_left
    · refine ⟨_, rfl, rfl, _, rfl, ?_⟩
      refine ite2 (fun _ => ?_) (fun _ => ⟨rfl, fun z => by cases z⟩)
      refine ⟨_, rfl, lp, _, rfl, .inl (SqL.of gl1), _, _, rfl, rfl, _, rfl, rfl, fun z => ?_⟩
      have := of_decide_eq_true z
      rw [List.length_append] at this
      omega
    subst eH
    cases b with
    | true =>
      have n2 := hb rfl
      refine iteT ?_
      refine ⟨_, rfl, _, rfl, _, rfl, lp, _, rfl, SqL.of gl1, fun D hD => ?_⟩
      rw [cut_init]
      exact q D ys pre (n - 1) _ ((d1.new hD).mono (by omega)) (d1.fr hD) (d1.2.ne hD) upd_same (tdI (tk1.trans (tk_new hD))) L.init (by omega) (by omega)
    | false =>
      refine iteF ?_
      refine ⟨fun b Hy => Hy = H' ∧ (b = true → l.fm.word = ("*" : Str)), fun b Hz ⟨eH, hb⟩ => ?_, ?_⟩
      rotate_left
      · refine ⟨_, rfl, rfl, _, rfl, ?_⟩
        refine ite2 (fun _ => ?_) (fun _ => ⟨rfl, fun z => by cases z⟩)
        refine ⟨_, rfl, la, _, 1, .str l.fm.word, rfl, rfl, SqT.tk hla tk1, rfl, rfl, _, rfl, rfl, fun z => ?_⟩
        exact V.str.inj (of_decide_eq_true z)
      subst eH
      have hla1 := SqT.tk hla tk1
      cases b with
      | true =>
        have hw := hb rfl
        refine iteT ?_
        obtain ⟨nm, fm⟩ := l
        obtain ⟨a, b, rfl⟩ : ∃ a b, fm = .prod a b := by
          cases fm with
          | prod a b => exact ⟨a, b, rfl⟩
          | one _ => exact absurd hw (by dsimp only [Frm.word]; decide)
          | road _ _ _ => exact absurd hw (by dsimp only [Frm.word]; decide)
          | close _ _ => exact absurd hw (by dsimp only [Frm.word]; decide)
          | turn _ _ _ => exact absurd hw (by dsimp only [Frm.word]; decide)
          | add _ => exact absurd hw (by dsimp only [Frm.word]; decide)
        obtain ⟨_, zs, e, hT, hA⟩ := (hpp.mv tk1).tupI
        cases e
        obtain ⟨x1, r1, rfl, t1, hA⟩ := hA.consI
        obtain ⟨x2, r2, rfl, t2, hA⟩ := hA.consI
        cases hA.nilI
        cases t1.strI
        cases t2.strI
        refine ⟨_, rfl, _, rfl, _, rfl, lp, _, rfl, SqL.of gl1, fun D hD => ?_⟩
        rw [cut_init]
        have s1 := same_new (o := .lst ys) hD
        have gD : (upd Hz D (.lst ys)) D = some (.lst ys) := upd_same
        have dD := d1.new (o := .lst ys) hD
        generalize upd Hz D (.lst ys) = H2 at *
        have hla2 := SqT.tk hla1 (Same.tk s1)
        refine ⟨_, rfl, la, _, 0, .str nm, rfl, rfl, hla2, rfl, _, rfl, la, _, 2, .ref lpp, rfl, rfl, hla2, rfl, lpp, _, rfl, SqT.tk hT (Same.tk s1), fun rp hrp => ?_⟩
        have s2 := s1.trans (same_new (o := .tup [.str b, .str a]) hrp)
        have grp : (upd H2 rp (.tup [.str b, .str a])) rp = some (.tup [.str b, .str a]) := upd_same
        have gD2 := same_new (o := .tup [.str b, .str a]) hrp _ _ gD
        have er : upd H2 rp (.tup ([.str a, .str b] : List V).reverse) = upd H2 rp (.tup [.str b, .str a]) := rfl
        rw [er]
        have dD2 := dD.new (o := .tup [.str b, .str a]) hrp
        generalize upd H2 rp (.tup [.str b, .str a]) = H3 at *
        refine ⟨wide (show 3 ≤ 1000 by decide), fun t ht => ⟨wide (show 1 ≤ 1000 by decide), fun Lq hLq => ?_⟩⟩
        have s3 := (same_new (o := .tup [.str nm, .str "*", .ref rp]) ht)
        have s4 := s3.trans (same_new (o := .lst [.ref t]) hLq)
        have gt := same_new (o := .lst [.ref t]) hLq t (.tup [.str nm, .str "*", .ref rp]) upd_same
        refine ⟨D, Lq, ys, [.ref t], rfl, rfl, s4 _ _ gD2, upd_same, wide (by show ys.length + 1 ≤ 1000; simp at xl; omega), fun R hR => ?_⟩
        have d4 := (dD2.new (o := .tup [.str nm, .str "*", .ref rp]) ht).new (o := .lst [.ref t]) hLq
        have s5 := s4.trans (same_new (o := .lst (ys ++ [.ref t])) hR)
        have sR := same_new (o := .lst (ys ++ [.ref t])) hR
        obtain ⟨⟨ga, ea⟩, gb, eb⟩ := lo.fm
        have L' := L.init.snoc (z := nm) (f := .prod b a) (by
          have := L.at' pre.length _ hl
          rwa [show pre.length = n - 1 by simp at ln; omega] at this) ⟨⟨gb, eb⟩, ga, ea⟩
        refine q R (ys ++ [.ref t]) (pre ++ [⟨nm, .prod b a⟩]) (n - 1 + 1) _ ((d4.new hR).mono (by omega)) (d4.fr hR) (d4.2.ne hR) upd_same ?_ L' (by omega) (by omega)
        rw [List.map_append]
        refine TdAll.snoc ?_ (tdI ((tk1.trans (Same.tk s2)).trans (Same.tk s5)))
        exact .tup (SqT.of (sR _ _ gt)) (.cons (.str _) (.cons (.str _) (.cons (.tup (SqT.of (s5 _ _ grp)) (.cons (.str _) (.cons (.str _) .nil))) .nil)))
      | false =>
        refine iteF ?_
        have hxl : (ys ++ [V.ref la]).length = n := by
          rw [List.length_append]
          exact xl
        refine ⟨_, rfl, _, rfl, lp, _, rfl, .inl (SqL.of gl1), ?_⟩
        rw [hxl]
        refine ⟨_, rfl, small_log (by omega) (by omega), _, _, rfl, rfl, wide ?_, ?_⟩
        · have := istr_len (i := (n : Int)) (by omega) (by omega)
          show 2 + (istr (n : Int)).length ≤ 1000
          omega
        refine ⟨_, rfl, p, 4, k + 3, rfl, d1.2.mono (by omega), by decide, by decide, fun r2 H2 c0 c1 d2 => ?_⟩
        refine ⟨_, _, rfl, rfl, wide (show 1 ≤ 1000 by decide), fun t1 ht1 => ⟨wide (show 3 ≤ 1000 by decide), fun t2 ht2 => ⟨wide (show 1 ≤ 1000 by decide), fun Lq hLq => ?_⟩⟩⟩
        have d2' := d1.trans d2
        have gl2 := d2.st nlp gl1
        have s1 := same_new (o := .tup [.int (1 + r2)]) ht1
        have s2 := same_new (o := .tup [.str (zzN n), .str "one", .ref t1]) ht2
        have s3 := same_new (o := .lst [.ref t2]) hLq
        have gt1 := s3 _ _ (s2 _ _ (upd_same (H := H2) (a := t1) (o := .tup [.int (1 + r2)])))
        have gt2 := s3 t2 (.tup [.str (zzN n), .str "one", .ref t1]) upd_same
        have gl3 := s3 _ _ (s2 _ _ (s1 _ _ gl2))
        have d3 := ((d2'.new (o := .tup [.int (1 + r2)]) ht1).new (o := .tup [.str (zzN n), .str "one", .ref t1]) ht2).new (o := .lst [.ref t2]) hLq
        refine ⟨lp, Lq, _, [.ref t2], rfl, rfl, gl3, upd_same, wide (by rw [hxl]; show n + 1 ≤ 1000; omega), fun R hR => ?_⟩
        have sR := same_new (o := .lst ((ys ++ [.ref la]) ++ [.ref t2])) hR
        have L' := L.snoc (z := zzN n) (f := .one [1 + r2]) (zz_at (by omega)) ⟨by simp, fun g hg => by
          rw [List.mem_singleton.mp hg]
          omega⟩
        refine q R ((ys ++ [.ref la]) ++ [.ref t2]) ((pre ++ [l]) ++ [⟨zzN n, .one [1 + r2]⟩]) (n + 1) _ ((d3.new hR).mono (by omega)) (d3.fr hR) (d3.2.ne hR) upd_same ?_ L' (by omega) (by omega)
        rw [List.map_append]
        refine TdAll.snoc ?_ (td.mv ((d3.tk hP).trans (Same.tk sR)))
        exact .tup (SqT.of (sR _ _ gt2)) (.cons (.str _) (.cons (.str _) (.cons (.tup (SqT.of (sR _ _ gt1)) (.cons (.int _) .nil)) .nil)))
end
end OG
set_option Elab.async false
set_option linter.all false
set_option maxRecDepth 100000
set_option maxHeartbeats 8000000
namespace OG
open PySem PySem.Spec PyProof.Rows L2
/-! lines as data: they can be shown -/
structure Sho (d : PyData) (n : Nat) : Prop where
  sh : d.showable = true
  is : d.intsShort 13 = true
  wt : d.weight ≤ n
  nd : d.hasDict = false
theorem sho_str {z : Str} {n : Nat} (h : z.length ≤ n) : Sho (.str z) n := ⟨by simp only [PyData.showable], by simp only [PyData.intsShort], by simp only [PyData.weight]; exact h, by simp only [PyData.hasDict]⟩
theorem log_sml {i : Int} (h : i.natAbs ≤ 1000) : i.natAbs.log2 ≤ 10 := by
  have := PySem.Flt.log2_lt_of (n := i.natAbs) (k := 10) (by decide) (Nat.lt_of_le_of_lt h (by decide))
  omega
theorem sho_int {i : Int} (h : i.natAbs ≤ 1000) : Sho (.int i) 11 := by
  refine ⟨by simp only [PyData.showable, decide_eq_true_eq]; exact small_log (by omega) (by omega), ?_, ?_, by simp only [PyData.hasDict]⟩
  · simp only [PyData.intsShort, decide_eq_true_eq]
    exact PyData.shown_int_le (Nat.lt_of_le_of_lt h (by decide))
  · simp only [PyData.weight]
    have := log_sml h
    split <;> omega
theorem sho_all : ∀ {ds : List PyData} {n : Nat}, (∀ d ∈ ds, Sho d n) → PyData.showableAll ds = true ∧ PyData.intsShortAll 13 ds = true ∧ PyData.weightAll ds ≤ (n + 1) * ds.length ∧ PyData.hasDictAll ds = false
  | [], n, _ => ⟨by simp [PyData.showableAll], by simp [PyData.intsShortAll], by simp [PyData.weightAll], by simp [PyData.hasDictAll]⟩
  | d :: r, n, h => by
    have h1 := h d List.mem_cons_self
    obtain ⟨a1, a2, a3, a4⟩ := sho_all (ds := r) fun x hx => h x (List.mem_cons_of_mem _ hx)
    refine ⟨by simp [PyData.showableAll, h1.sh, a1], by simp [PyData.intsShortAll, h1.is, a2], ?_, by simp [PyData.hasDictAll, h1.nd, a4]⟩
    simp only [PyData.weightAll, List.length_cons, Nat.mul_succ]
    have := h1.wt
    omega
theorem sho_tup {ds : List PyData} {n m : Nat} (h : ∀ d ∈ ds, Sho d n) (hm : (n + 1) * ds.length ≤ m) : Sho (.tuple ds) m := by
  obtain ⟨a1, a2, a3, a4⟩ := sho_all h
  refine ⟨by simp only [PyData.showable]; exact a1, by simp only [PyData.intsShort]; exact a2, ?_, by simp only [PyData.hasDict]; exact a4⟩
  simp only [PyData.weight]
  omega
theorem Sho.mono {d : PyData} {n m : Nat} (h : Sho d n) (e : n ≤ m) : Sho d m := ⟨h.sh, h.is, Nat.le_trans h.wt e, h.nd⟩
theorem sho_gs {gs : List Int} (h : GsOk gs) : Sho (gsD gs) 48 := by
  refine sho_tup (n := 11) (fun d hd => ?_) ?_
  · obtain ⟨g, hg, rfl⟩ := List.mem_map.mp hd
    have := h.rng g hg
    exact sho_int (by omega)
  · rw [List.length_map]
    have := h.len
    omega
theorem parts_sho {f : Frm} (h : FrmFit f) : ∀ d ∈ f.partsL, Sho d 80 := by
  have str : ∀ {z : Str}, z.length ≤ 20 → Sho (.str z) 80 := fun h => (sho_str h).mono (by decide)
  have int : ∀ {g : Int}, (1 ≤ g ∧ g ≤ 4) → Sho (.int g) 80 := fun h => (sho_int (by omega)).mono (by decide)
  intro d hd
  cases f with
  | one gs =>
    obtain ⟨g, hg, rfl⟩ := List.mem_map.mp hd
    exact int (GsOk.rng h g hg)
  | road k g h' =>
    obtain ⟨h1, h2, h3⟩ := h
    have hd : d ∈ [PyData.str k, .int g, .int h'] := hd
    simp only [List.mem_cons, List.mem_nil_iff, or_false] at hd
    rcases hd with rfl | rfl | rfl
    · exact str h1
    · exact int h2
    · exact int h3
  | prod a b =>
    have hd : d ∈ [PyData.str a, .str b] := hd
    simp only [List.mem_cons, List.mem_nil_iff, or_false] at hd
    rcases hd with rfl | rfl
    · exact str h.1
    · exact str h.2
  | close g a =>
    have hd : d ∈ [PyData.int g, .str a] := hd
    simp only [List.mem_cons, List.mem_nil_iff, or_false] at hd
    rcases hd with rfl | rfl
    · exact int h.1
    · exact str h.2
  | turn g h' a =>
    obtain ⟨h1, h2, h3⟩ := h
    have hd : d ∈ [PyData.int g, .int h', .str a] := hd
    simp only [List.mem_cons, List.mem_nil_iff, or_false] at hd
    rcases hd with rfl | rfl | rfl
    · exact int h1
    · exact int h2
    · exact str h3
  | add fs =>
    obtain ⟨f, hf, rfl⟩ := List.mem_map.mp hd
    obtain ⟨fo, fl⟩ := h.2 f hf
    have s2 := fo.sml.2
    have lw := fo.low
    refine sho_tup (n := 30) (fun e he => ?_) (by show 31 * 2 ≤ 80; decide)
    simp only [List.mem_cons, List.mem_nil_iff, or_false] at he
    rcases he with rfl | rfl
    · refine sho_tup (n := 11) (fun e he => ?_) (by show 12 * 2 ≤ 30; decide)
      simp only [List.mem_cons, List.mem_nil_iff, or_false] at he
      rcases he with rfl | rfl
      · exact sho_int fo.sml.1
      · exact sho_int (by omega)
    · exact (sho_str fl).mono (by decide)
theorem ln_sho {l : Ln} (h : LnFit l) : Sho l.data 24400 := by
  refine sho_tup (n := 8100) (fun d hd => ?_) (by show 8101 * 3 ≤ 24400; decide)
  simp only [List.mem_cons, List.mem_nil_iff, or_false] at hd
  rcases hd with rfl | rfl | rfl
  · exact (sho_str h.nm).mono (by decide)
  · exact (sho_str (word_len _)).mono (by decide)
  · refine sho_tup (parts_sho h.fm) ?_
    have := h.fm.parts.1
    omega
theorem sho_fits {d : PyData} {n : Nat} (h : Sho d n) (hn : n ≤ 1000000) (hl : d.canLay0 = true) (hd : d.depth ≤ 60) : d.shown.length ≤ sizeLine := by
  refine PyData.shown_fits_of_layable0 (B := 13) (by decide) (by decide) ?_ h.is
  unfold PyData.layable0
  rw [hl, decide_eq_true (show d.depth ≤ 64 by omega), decide_eq_true (show d.weight ≤ 2 ^ 20 from Nat.le_trans h.wt (Nat.le_trans hn (by decide)))]
  rfl
end OG
set_option Elab.async false
set_option linter.all false
set_option maxRecDepth 100000
set_option maxHeartbeats 8000000
namespace OG
open PySem PySem.Spec PyProof.Rows L2 OGX
/-- what of a script's methods stands in the text -/
structure TxtM (K : PySem.W.Frag) (mg : Str → Option Value) (T : Txt K mg) : Prop where
  exN : OexC K T.c_NoName
  inN : PySem.W.findIn K (.ref T.c_NoName) "__init__" = some (some (.ref T.f_GateError_init))
  noN : PySem.W.findIn K (.ref T.c_NoName) "value" = some none
  xfN : XfC K T.c_NoName
  ecN : ExcC K T.c_NoName
  teN : PySem.W.exmOne K (.ref T.c_NoName) (.ref T.c_GateError) = some true
  ktN : PySem.W.kitOne K (.ref T.c_NoName) (.ref T.c_NoName) = some true
  ln : PySem.W.findIn K (.ref T.c_Script) "__len__" = some (some (.ref T.f_Script_len))
  lnF : PySem.W.isFn K (.ref T.f_Script_len) = true
  ct : PySem.W.findIn K (.ref T.c_Script) "__contains__" = some (some (.ref T.f_Script_contains))
  ctF : PySem.W.isFn K (.ref T.f_Script_contains) = true
  eq : PySem.W.findIn K (.ref T.c_Script) "__eq__" = some (some (.ref T.f_Script_eq))
  eqF : PySem.W.isFn K (.ref T.f_Script_eq) = true
  ne : PySem.W.findIn K (.ref T.c_Script) "__ne__" = some (some (.builtin "object.__ne__"))
  sub : PySem.W.subIn K (.ref T.c_Script) (.type "object") = some true
  ks : ∀ t ∈ ["str", "NoneType", "int", "dict", "tuple"], PySem.W.kitOne K (.type t) (.ref T.c_Script) = some false
  nf : ∀ t ∈ ["str", "NoneType", "int", "dict", "tuple"], PySem.W.notFirst K T.c_Script (.type t) = true
  m_gates_of : Meth K T.c_Script "gates_of" T.f_Script_gates_of
def spGateInit (K : PySem.W.Frag) : Sp := fun vs H Q _ => ∃ (a C : Addr) (y : V), vs = [.ref a, y] ∧ OexC K C ∧ PySem.W.findIn K (.ref C) "value" = some none ∧ H a = some (exo a C none) ∧
  ∀ dx, H dx = none → dx ≠ a → Q .non (upd (upd H dx (exd dx [("value", y)])) a (exo a C (some dx)))
theorem kit_own {K : PySem.W.Frag} {C : Addr} {b : Bool} {t : String} (h1 : PySem.W.isClsIn K C = true) (h2 : PySem.W.typeIn K (.ref C) = some (.type "type")) (h3 : PySem.W.subIn K (.type t) (.ref C) = some b) : PySem.W.kitOne K (.type t) (.ref C) = some b := by
  unfold PySem.W.kitOne
  rw [if_neg (by simp)]
  show (if ((PySem.W.clsIn K C).isSome && PySem.W.typeIn K (.ref C) == some (.type "type")) = true then PySem.W.subIn K (.type t) (.ref C) else none) = some b
  rw [show (PySem.W.clsIn K C).isSome = true from h1, h2, if_pos (by simp), h3]
section
variable {P : Program} {w : World} {K : PySem.W.Frag} {mg : Str → Option Value} {base : Heap}
theorem ok_GateError_init (T : Txt K mg) : FnOk P w K mg base CX0 1 T.f_GateError_init T.fd_GateError_init ["self", "value"] (spGateInit K) := by
  refine T.F_GateError_init.ok sc_GateError_init (fun vs H Q E h => ?_) (fun cdv A outer s H vs Q E hr h => ?_)
  · obtain ⟨a, C, y, rfl, _⟩ := h
    rfl
  · obtain ⟨a, C, y, rfl, hC, hno, ha, q⟩ := h
    refine ⟨_, pss_one (ps_ost (pv 0) (pv 1)), ?_⟩
    exact ⟨y, rfl, .ref a, rfl, a, C, rfl, hC, hno, .inl ⟨ha, fun dx n ne => q dx n ne⟩⟩
theorem raised_same {H : Hp} {a dx : Addr} {u1 u2 u3 u4 : HO} (ha : H a = none) (hd : upd H a u1 dx = none) : Same H (upd (del (upd (upd (upd H a u1) dx u2) a u3) a) dx u4) := fun b o e => by
  have n1 : b ≠ a := ne_of_none e ha
  have e1 : upd H a u1 b = some o := by
    rw [upd_ne n1]
    exact e
  have n2 : b ≠ dx := ne_of_none e1 hd
  rw [upd_ne n2, del_ne n1, upd_ne n1, upd_ne n2]
  exact e1
end
theorem oex_made {K : PySem.W.Frag} {C : Addr} (ex : OexC K C) (no : PySem.W.findIn K (.ref C) "value" = some none) {H : Hp} {y : V} {Qx : XK} (q : ∀ d H', Same H H' → H' d = some (.xd [("value", y)]) → Qx (.ref C) (some d) H') :
    [y].length ≤ 1000 ∧ ∀ a, H a = none → spGateInit K (.ref a :: ([y] ++ [])) (upd H a (exo a C none))
      (fun v H2 => v = .non ∧ ∃ (d : Addr) (fs : List (Str × V)), H2 a = some (exo a C (some d)) ∧ H2 d = some (exd d fs) ∧ H d = none ∧ Qx (.ref C) (some d) (upd (del H2 a) d (.xd fs))) (fun _ _ _ => False) := by
  refine ⟨by show 1 ≤ 1000; decide, fun a ha => ⟨a, C, y, rfl, ex, no, upd_same, fun dx hdx hne => ⟨rfl, dx, [("value", y)], upd_same, ?_, ?_, ?_⟩⟩⟩
  · rw [upd_ne hne, upd_same]
  · rw [upd_ne hne] at hdx
    exact hdx
  · exact q dx _ (raised_same ha hdx) upd_same
section
variable {P : Program} {w : World} {K : PySem.W.Frag} {mg : Str → Option Value} {base : Heap}
/-- the gates of a line, or NoName -/
def spGatesOf (T : Txt K mg) : Sp := fun vs H Q E => ∃ (x : Addr) (v : V) (lns : List Ln), vs = [.ref x, v] ∧ NearV H v ∧ ScrAt K T.c_Script H x lns ∧
  ((∃ (z : Str) (gs : List Int), v = .str z ∧ glk (knOf [] lns) z = some gs ∧ ∀ u, Td K H u (gsD gs) → Q u H) ∨ (inL v lns = false ∧ ∀ d H', Same H H' → H' d = some (.xd [("value", v)]) → E (.ref T.c_NoName) (some d) H'))
theorem ok_Script_gates_of (T : Txt K mg) (XT : TxtX K mg T) (XM : TxtM K mg T) : FnOk P w K mg base (L2.CX P w) 3 T.f_Script_gates_of T.fd_Script_gates_of ["self", "name"] (spGatesOf T) := by
  refine T.F_Script_gates_of.okX sc_Script_gates_of (fun vs H Q E h => ?_) (fun cdv A outer s H vs Q E hr h => ?_)
  · obtain ⟨x, v, lns, rfl, _⟩ := h
    rfl
  · obtain ⟨x, v, lns, rfl, hv, hX, h⟩ := h
    refine ⟨_, (pss_cons (ps_if (pt_cmpR (OGX.op_notInOwn (ok_Script_contains T XT) (hr.mono (by decide)) XM.ct XM.ctF T.b_Script_contains passL) (pv 1) (pv 0) rfl) (pss_one (ps_raise rfl (takes_of rfl rfl rfl rfl) (pmk_oex XM.exN XM.inN XT.tyI (ok_GateError_init T) (hr.mono (by decide)) T.b_GateError_init .nil pass0 (by rfl) T.g_NoName (pa_cons (pv 1) pa_nil)))) pss_nil)
  (pss_one (ps_ret (pe_dget (hu_of hr) (pe_fld (pv 0) rfl) (pv 1) (fun _ _ => rfl))))), ?_⟩
    obtain ⟨dx, lt, kd, ga, fs, xs, kvs, hx, _, f1, f2, gl, td, f3, g3, f4, f5, f6, gk, kn, f7⟩ := id hX
    refine ⟨v, rfl, .ref x, rfl, x, dx, fs, rfl, hx, x, v, lns, rfl, hv, hX, _, rfl, ?_⟩
    rcases h with ⟨z, gs, rfl, hz, q⟩ | ⟨e, q⟩
    · obtain ⟨u, u1, u2⟩ := kn.get hz
      have e : inL (.str z) lns = true := by
        show decide (z ∈ lns.map (·.nm)) = true
        rw [← ScrAt.has kn z, u1]
        rfl
      rw [e]
      refine ⟨false, rfl, iteF ?_⟩
      exact ⟨.ref x, rfl, x, T.c_Script, dx, fs, _, rfl, hx, XT.cl, XT.na6, f6, .str z, rfl, kd, u, rfl, .inl ⟨kvs, .inr z, .inl gk, rfl, u1.symm⟩, q u u2⟩
    · rw [e]
      refine ⟨true, rfl, iteT ?_⟩
      exact ⟨v, rfl, oex_made XM.exN XM.noN q⟩
end
end OG
set_option Elab.async false
set_option linter.all false
set_option maxRecDepth 100000
set_option maxHeartbeats 8000000
namespace OG
open PySem PySem.Spec PyProof.Rows L2 OGX
/-- a value that is no script -/
def NoScr (H : Hp) (v : V) : Prop := (∃ s, v = .str s) ∨ v = .non ∨ (∃ i, v = .int i) ∨ (∃ a kvs, v = .ref a ∧ H a = some (.dK kvs)) ∨ ∃ a xs, v = .ref a ∧ H a = some (.tup xs)
section
variable {P : Program} {w : World} {K : PySem.W.Frag} {mg : Str → Option Value} {base : Heap}
def spEqS (T : Txt K mg) : Sp := fun vs H Q _ => ∃ (x : Addr) (v : V) (lns : List Ln), vs = [.ref x, v] ∧ ScrAt K T.c_Script H x lns ∧
  ((∃ (y : Addr) (lns' : List Ln), v = .ref y ∧ ScrAt K T.c_Script H y lns' ∧ Q (.bl (decide (textT lns = textT lns'))) H) ∨ (NoScr H v ∧ Q (.bl false) H))
theorem ok_Script_eq (T : Txt K mg) (XT : TxtX K mg T) (XM : TxtM K mg T) : FnOk P w K mg base (L2.CX P w) 1 T.f_Script_eq T.fd_Script_eq ["self", "other"] (spEqS T) := by
  refine T.F_Script_eq.okX sc_Script_eq (fun vs H Q E h => ?_) (fun cdv A outer s H vs Q E hr h => ?_)
  · obtain ⟨x, v, lns, rfl, _⟩ := h
    rfl
  · obtain ⟨x, v, lns, rfl, hX, hv⟩ := h
    refine ⟨_, (pss_one (ps_ret (pe_and (pe_callB call_isi (by rfl) T.n_isinstance (by decide +kernel) (pa_cons (pv 1) (pa_cons (C8.pe_gc (v := .ref T.c_Script) (by rfl) ⟨_, T.g_Script, rfl⟩) pa_nil))) (pe_one (pe_cmpR op_eq (pe_fld (pv 0) rfl) (pe_fld (pv 1) rfl) (nomark _)))))), ?_⟩
    obtain ⟨dx, lt, kd, ga, fs, xs, kvs, hx, _, f1, f2, gl, td, f3, g3, f4, f5, f6, gk, kn, f7⟩ := hX
    rcases hv with ⟨y, lns', rfl, hY, q⟩ | ⟨hv, q⟩
    · obtain ⟨dy, _, _, _, gs, _, _, hy, _, e1, _⟩ := hY
      refine ⟨.ref y, rfl, _, _, _, _, true, rfl, .own T.c_Script, .base (.ins hy XT.cl XT.ca XM.ecN.hn XM.ecN.ht XT.ob), XT.kb, _, rfl, iteT ?_⟩
      refine ⟨.ref x, rfl, x, T.c_Script, dx, fs, _, rfl, hx, XT.cl, XT.na1, f1, .ref y, rfl, y, T.c_Script, dy, gs, _, rfl, hy, XT.cl, XT.na1, e1, rfl, ?_⟩
      rw [show decide (V.str (textT lns) = V.str (textT lns')) = decide (textT lns = textT lns') from decide_eq_decide.mpr ⟨V.str.inj, congrArg V.str⟩]
      exact q
    · rcases hv with ⟨s, rfl⟩ | rfl | ⟨i, rfl⟩ | ⟨a, kvs, rfl, ha⟩ | ⟨a, ys, rfl, ha⟩
      · exact ⟨.str s, rfl, _, _, _, _, false, rfl, .own T.c_Script, .base (.str s), XM.ks _ (by simp), _, rfl, iteF q⟩
      · exact ⟨.non, rfl, _, _, _, _, false, rfl, .own T.c_Script, .base .non, XM.ks _ (by simp), _, rfl, iteF q⟩
      · exact ⟨.int i, rfl, _, _, _, _, false, rfl, .own T.c_Script, .base (.int i), XM.ks _ (by simp), _, rfl, iteF q⟩
      · exact ⟨.ref a, rfl, _, _, _, _, false, rfl, .own T.c_Script, .base (.dK ha), XM.ks _ (by simp), _, rfl, iteF q⟩
      · exact ⟨.ref a, rfl, _, _, _, _, false, rfl, .own T.c_Script, .base (.tup ha), XM.ks _ (by simp), _, rfl, iteF q⟩
end
end OG
set_option Elab.async false
set_option linter.all false
set_option maxRecDepth 100000
set_option maxHeartbeats 8000000
namespace OG
open PySem PySem.Spec PyProof.Rows L2 OGX
theorem call_reprVK {X : Cx} (K : PySem.W.Frag) (hg : X.A.guards = some []) (hu : X.A.units + 64 < cLine) (hK : X.K = K := by rfl) : CallR X (.builtin "repr") (rReprV K) := hK ▸ call_reprV hg hu
theorem ScrAt.same {K : PySem.W.Frag} {C : Addr} {H H' : Hp} {x : Addr} {lns : List Ln} (h : ScrAt K C H x lns) (s : Same H H') : ScrAt K C H' x lns := by
  obtain ⟨dx, lt, kd, ga, fs, xs, kvs, hx, l, f1, f2, gl, td, f3, g3, f4, f5, f6, gk, kn, f7⟩ := h
  exact ⟨dx, lt, kd, ga, fs, xs, kvs, s _ _ hx, l, f1, f2, s _ _ gl, td.mv (Same.tk s), f3, g3.mv (Same.tk s), f4, f5, f6, s _ _ gk, kn.mv (Same.tk s), f7⟩
/-- repr of data of tuples -/
theorem reprT {K : PySem.W.Frag} {H : Hp} {v : V} {d : PyData} {n : Nat} {Q : VK} (t : Td K H v d) (s : Sho d n) (hn : n ≤ 1000000) (hl : d.canLay0 = true) (hd : d.depth ≤ 60) (q : Q (.str d.shown) H) : rReprV K [v] H Q :=
  ⟨v, d, rfl, .inl ⟨t.dp, s.nd⟩, s.sh, hd, sho_fits s hn hl hd, q⟩
def tellD (lns : List Ln) : PyData := .tuple [.str (textT lns), .tuple (lns.map Ln.data)]
theorem L9.fit {lns : List Ln} {n : Nat} (L : L9 lns n) : ∀ l ∈ lns, LnFit l := fun l hl => by
  obtain ⟨i, hi⟩ := List.mem_iff_getElem?.mp hl
  exact ⟨(L.nice l hl).nm.len, (L.ok.at hi).fm.fit (KnOk.of KnOk.nil (L.ok.take i)) (L.nice l hl).fm⟩
theorem textT_len {lns : List Ln} {n : Nat} (L : L9 lns n) (hn : n ≤ 21) : (textT lns).length ≤ 22 * 6294 := join_le (c := 6293) (n := 22) (fun y hy => by
  rcases List.mem_cons.mp hy with rfl | hy
  · decide
  · obtain ⟨l, hl, rfl⟩ := List.mem_map.mp hy
    exact lineT_len (L.fit l hl)) (by rw [List.length_cons, List.length_map, L.len]; omega) rfl
theorem lns_sho {lns : List Ln} {n : Nat} (L : L9 lns n) (hn : n ≤ 21) : Sho (.tuple (lns.map Ln.data)) 512500 := by
  refine sho_tup (n := 24400) (fun d hd => ?_) ?_
  · obtain ⟨l, hl, rfl⟩ := List.mem_map.mp hd
    exact ln_sho (L.fit l hl)
  · rw [List.length_map, L.len]
    omega
theorem strOk_iff {z : Str} : PyData.strOk z = true ↔ ∀ c ∈ tl z, c < 0x110000 := by
  unfold PyData.strOk
  rw [← Array.all_toList, List.all_eq_true]
  exact ⟨fun h c hc => of_decide_eq_true (h c hc), fun h c hc => decide_eq_true (h c hc)⟩
theorem strOk_join {a : Str} {ys : List Str} (ha : PyData.strOk a = true) (h : ∀ y ∈ ys, PyData.strOk y = true) : PyData.strOk (Txt.join a ys) = true := by
  rw [strOk_iff]
  intro c hc
  have hc : c ∈ TL.joinL (TL.tl a) (ys.map TL.tl) := by
    rw [← tl_jn]
    exact hc
  rcases joinL_mem hc with hc | ⟨l, hl, hc⟩
  · exact strOk_iff.mp ha c hc
  · obtain ⟨y, hy, rfl⟩ := List.mem_map.mp hl
    exact strOk_iff.mp (h y hy) c hc
theorem facs_strOk : (allFacs.all fun f => PyData.strOk (facT f)) = true := by decide +kernel
theorem gate_strOk {g : Int} (h : 1 ≤ g ∧ g ≤ 4) : PyData.strOk (istr g) = true := by
  have h4 : g = 1 ∨ g = 2 ∨ g = 3 ∨ g = 4 := by omega
  rcases h4 with rfl | rfl | rfl | rfl <;> decide +kernel
theorem form_strOk {f : Frm} (h : ∀ z ∈ f.strs, Nice z) (ft : FrmFit f) : ∀ z ∈ formW f, PyData.strOk z = true := by
  have w : ∀ z ∈ (["one", "road", "close", "turn", "add", "*", "="] : List Str), PyData.strOk z = true := by decide +kernel
  intro z hz
  cases f with
  | one gs =>
    rcases List.mem_cons.mp hz with rfl | hz
    · exact w _ (by decide)
    · obtain ⟨g, hg, rfl⟩ := List.mem_map.mp hz
      exact gate_strOk (GsOk.rng ft g hg)
  | road k g h' =>
    have hz : z ∈ (["road", k, istr g, istr h'] : List Str) := hz
    simp only [List.mem_cons, List.mem_nil_iff, or_false] at hz
    rcases hz with rfl | rfl | rfl | rfl
    · exact w _ (by decide)
    · exact (h _ List.mem_cons_self).ok
    · exact gate_strOk ft.2.1
    · exact gate_strOk ft.2.2
  | prod a b =>
    have hz : z ∈ ([a, "*", b] : List Str) := hz
    simp only [List.mem_cons, List.mem_nil_iff, or_false] at hz
    rcases hz with rfl | rfl | rfl
    · exact (h _ List.mem_cons_self).ok
    · exact w _ (by decide)
    · exact (h _ (List.mem_cons_of_mem _ List.mem_cons_self)).ok
  | close g a =>
    have hz : z ∈ (["close", istr g, a] : List Str) := hz
    simp only [List.mem_cons, List.mem_nil_iff, or_false] at hz
    rcases hz with rfl | rfl | rfl
    · exact w _ (by decide)
    · exact gate_strOk ft.1
    · exact (h _ List.mem_cons_self).ok
  | turn g h' a =>
    have hz : z ∈ (["turn", istr g, istr h', a] : List Str) := hz
    simp only [List.mem_cons, List.mem_nil_iff, or_false] at hz
    rcases hz with rfl | rfl | rfl | rfl
    · exact w _ (by decide)
    · exact gate_strOk ft.1
    · exact gate_strOk ft.2.1
    · exact (h _ List.mem_cons_self).ok
  | add fs =>
    rcases List.mem_cons.mp hz with rfl | hz
    · exact w _ (by decide)
    · obtain ⟨l, hl, hz⟩ := List.mem_flatten.mp hz
      obtain ⟨f, hf, rfl⟩ := List.mem_map.mp hl
      simp only [List.mem_cons, List.mem_nil_iff, or_false] at hz
      rcases hz with rfl | rfl
      · exact List.all_eq_true.mp facs_strOk f.1 (ft.2 f hf).1.mem
      · exact (h _ (List.mem_map.mpr ⟨f, hf, rfl⟩)).ok
theorem text_ok {lns : List Ln} (h : ∀ l ∈ lns, LnNice l ∧ LnFit l) : PyData.strOk (textT lns) = true := by
  refine strOk_join (by decide +kernel) fun y hy => ?_
  rcases List.mem_cons.mp hy with rfl | hy
  · decide +kernel
  · obtain ⟨l, hl, rfl⟩ := List.mem_map.mp hy
    refine strOk_join (by decide +kernel) fun z hz => ?_
    rw [lineW_eq] at hz
    rcases List.mem_cons.mp hz with rfl | hz
    · exact (h l hl).1.nm.ok
    rcases List.mem_cons.mp hz with rfl | hz
    · decide +kernel
    · exact form_strOk (h l hl).1.fm (h l hl).2.fm z hz
theorem tellD_ok {lns : List Ln} {n : Nat} (L : L9 lns n) (hn : n ≤ 21) : Sho (tellD lns) 1000000 ∧ (tellD lns).canLay0 = true ∧ (tellD lns).depth ≤ 60 := by
  refine ⟨?_, ?_, ?_⟩
  · obtain ⟨a1, a2, a3, a4⟩ := lns_sho L hn
    have tl := textT_len L hn
    refine ⟨by simp only [tellD, PyData.showable, PyData.showableAll]; simp only [PyData.showable] at a1; simp [a1], by simp only [tellD, PyData.intsShort, PyData.intsShortAll]; simp only [PyData.intsShort] at a2; simp [a2], ?_, by simp only [tellD, PyData.hasDict, PyData.hasDictAll]; simp only [PyData.hasDict] at a4; simp [a4]⟩
    simp only [PyData.weight] at a3
    simp only [tellD, PyData.weight, PyData.weightAll]
    have : (textT lns).cps.size ≤ 22 * 6294 := tl
    omega
  · have h1 := lay_all (ds := lns.map Ln.data) fun d hd => by
      obtain ⟨l, hl, rfl⟩ := List.mem_map.mp hd
      exact (ln_lay (L.nice l hl)).1
    simp only [tellD, PyData.canLay0, PyData.canLayAll0, h1, text_ok fun l hl => ⟨L.nice l hl, L.fit l hl⟩]
    rfl
  · have h2 := dep_all (ds := lns.map Ln.data) (n := 4) fun d hd => by
      obtain ⟨l, hl, rfl⟩ := List.mem_map.mp hd
      exact (ln_lay (L.nice l hl)).2
    simp only [tellD, PyData.depth, PyData.depthAll]
    omega
theorem width_le {lns : List Ln} (ok : LnsOk [] lns) : widthL lns ≤ 4 := by
  obtain ⟨_, _, h3⟩ := fold_max ((knOf [] lns).map (·.2.length)) 0
  unfold widthL
  rcases h3 with h3 | h3
  · rw [h3]
    decide
  · obtain ⟨p, hp, e⟩ := List.mem_map.mp h3
    rw [← e]
    exact ((KnOk.of KnOk.nil ok).gs p hp).len
theorem sho_bl (b : Bool) : Sho (.bool b) 0 := ⟨by simp only [PyData.showable], by simp only [PyData.intsShort], by simp only [PyData.weight]; exact Nat.le_refl _, by simp only [PyData.hasDict]⟩
theorem KnD.ent {K : PySem.W.Frag} {H : Hp} : ∀ {kvs : List (Key × V)} {kn : Kn} {i : Nat} {k : Key} {v : V}, KnD K H kvs kn → kvs[i]? = some (k, v) → ∃ p, kn[i]? = some p ∧ k = .inr p.1 ∧ Td K H v (gsD p.2)
  | _, _, i, _, _, .nil, h => by simp at h
  | _, _, 0, _, _, .cons h _, e => by
    cases Option.some.inj e
    exact ⟨_, rfl, rfl, h⟩
  | _, _, i + 1, _, _, .cons _ t, e => KnD.ent (i := i) t e
theorem KnD.valAt {K : PySem.W.Frag} {H : Hp} : ∀ {kvs : List (Key × V)} {kn : Kn} {i : Nat} {a : Str} {v : V}, KnD K H kvs kn → (kn.map (·.1)).Nodup → kvs[i]? = some (.inr a, v) → valV kvs (.inr a) = some v
  | _, _, i, _, _, .nil, _, h => by simp at h
  | _, _, 0, _, _, .cons _ _, _, e => by
    cases Option.some.inj e
    exact valV_pos rfl
  | _, _, i + 1, a, v, .cons (a := b) (kvs := kvs) (kn := kn) _ t, nd, e => by
    rw [List.map_cons, List.nodup_cons] at nd
    have e : kvs[i]? = some (.inr a, v) := e
    obtain ⟨p, hp, hk, _⟩ := t.ent e
    have : a ∈ kn.map (·.1) := List.mem_map.mpr ⟨p, List.mem_of_getElem? hp, (Sum.inr.inj hk).symm⟩
    rw [valV_neg (k_ne fun z => nd.1 (by
      have z : b = a := z
      rw [z]
      exact this))]
    exact KnD.valAt (i := i) t nd.2 e
theorem lay_gs (gs : List Int) : (gsD gs).canLay0 = true ∧ (gsD gs).depth ≤ 1 := by
  refine ⟨by simp only [PyData.canLay0]; exact lay_intsP gs, ?_⟩
  simp only [PyData.depth, depth_ints]
  decide
theorem pair_ok {d e : PyData} {n m : Nat} (h1 : Sho d n) (h2 : Sho e m) (hn : n + m ≤ 900000) (l1 : d.canLay0 = true) (l2 : e.canLay0 = true) (p1 : d.depth ≤ 50) (p2 : e.depth ≤ 50) :
    Sho (.tuple [d, e]) 1000000 ∧ (PyData.tuple [d, e]).canLay0 = true ∧ (PyData.tuple [d, e]).depth ≤ 60 := by
  have w1 := h1.wt
  have w2 := h2.wt
  refine ⟨⟨by simp [PyData.showable, PyData.showableAll, h1.sh, h2.sh], by simp [PyData.intsShort, PyData.intsShortAll, h1.is, h2.is], by simp only [PyData.weight, PyData.weightAll]; omega, by simp [PyData.hasDict, PyData.hasDictAll, h1.nd, h2.nd]⟩, by simp [PyData.canLay0, PyData.canLayAll0, l1, l2], by simp only [PyData.depth, PyData.depthAll]; omega⟩
section
variable {P : Program} {w : World} {K : PySem.W.Frag} {mg : Str → Option Value} {base : Heap}
def spToldS (T : Txt K mg) : Sp := fun vs H Q _ => ∃ (x lp : Addr) (xs : List V) (lns : List Ln) (n : Nat), vs = [.ref x, .ref lp] ∧ ScrAt K T.c_Script H x lns ∧ H lp = some (.lst xs) ∧ TdAll K H xs (lns.map Ln.data) ∧ L9 lns n ∧ 1 ≤ n ∧ n ≤ 21 ∧ ∀ H', Same H H' → Q (.bl true) H'
theorem ok_l_is_told_right (T : Txt K mg) (XT : TxtX K mg T) (XM : TxtM K mg T) : OGX.FnG P w K mg base 7 T.f_l_is_told_right T.fd_l_is_told_right ["script", "lines"] (spToldS T) := by
  refine OGX.okG T.F_l_is_told_right sc_l_is_told_right (fun vs H Q E h => ?_) (fun cdv A outer s H vs Q E hG hr h => ?_)
  · obtain ⟨x, lp, xs, lns, n, rfl, _⟩ := h
    rfl
  · obtain ⟨x, lp, xs, lns, n, rfl, hX, gl, td, L, n1, n21, q⟩ := h
    refine ⟨_, (pss_cons (ps_set (i := 2) sc_l_is_told_right.nd rfl (Or.inr rfl) (pe_call (ok_l_script_gates T) (hr.mono (by decide)) (by rfl) T.g_l_script_gates T.F_l_script_gates.kp T.b_l_script_gates .nil pass0 (pa_cons (pv 1) pa_nil)))
  (pss_cons (ps_if (pt_cmpR op_ne (pe_callB (OGX.call_reprV hG hr.units) (by rfl) T.n_repr (by decide +kernel) (pa_cons (pe_tup (pa_cons (pe_fld (pv 0) rfl) (pa_cons (pe_fld (pv 0) rfl) pa_nil))) pa_nil)) (pe_callB (OGX.call_reprV hG hr.units) (by rfl) T.n_repr (by decide +kernel) (pa_cons (pe_tup (pa_cons (pe_call (ok_l_script_text T) (hr.mono (by decide)) (by rfl) T.g_l_script_text T.F_l_script_text.kp T.b_l_script_text .nil pass0 (pa_cons (pv 1) pa_nil)) (pa_cons (pe_callTy call_tuple_of (by rfl) T.n_tuple (by decide +kernel) (pa_cons (pv 1) pa_nil)) pa_nil))) pa_nil)) (nomark _)) (pss_one (ps_ret pe_bl)) pss_nil)
  (pss_cons (ps_if (pt_cmpR op_ne (pe_callB (OGX.call_reprV hG hr.units) (by rfl) T.n_repr (by decide +kernel) (pa_cons (pe_tup (pa_cons (pe_fld (pv 0) rfl) (pa_cons (pe_fld (pv 0) rfl) pa_nil))) pa_nil)) (pe_callB (OGX.call_reprV hG hr.units) (by rfl) T.n_repr (by decide +kernel) (pa_cons (pe_tup (pa_cons (pe_dget (hu_of hr) (pv 2) (pe_ix ix_tup (pe_ix ix_list (pv 1) (pe_un un_neg pe_int) (fun _ _ => rfl)) pe_int (fun _ _ => rfl)) (fun _ _ => rfl)) (pa_cons (pe_call (ok_l_script_width T) (hr.mono (by decide)) (by rfl) T.g_l_script_width T.F_l_script_width.kp T.b_l_script_width .nil pass0 (pa_cons (pv 1) pa_nil)) pa_nil))) pa_nil)) (nomark _)) (pss_one (ps_ret pe_bl)) pss_nil)
  (pss_cons (ps_set (i := 3) sc_l_is_told_right.nd rfl (Or.inl rfl) (pe_not (pe_callB (cr_any rfl) (by rfl) T.n_any (by decide +kernel) (pa_cons (pe_lc (own := [("line", 5)]) (g := gName 5) (by rfl) sc_l_is_told_right.nd (pi_list (pv 1)) (blkOk_by (own := [("line", 5)]) (by rfl)) (fun _ _ _ _ _ => (pg_name (i := 5) sc_l_is_told_right.nd rfl (Or.inl rfl))) (fun _ _ _ _ _ => pts_nil) (fun _ _ _ _ _ => (pe_cmpR op_eq (pe_ix (ix_tupK K) (pv 5) pe_int (fun _ _ => rfl)) pe_str (nomark _)))) pa_nil))))
  (pss_cons (ps_if (pt_cmpR op_ne (pe_callB (OGX.call_reprV hG hr.units) (by rfl) T.n_repr (by decide +kernel) (pa_cons (pe_tup (pa_cons (pe_callB (OGX.call_lenOwn (ok_Script_len T XT) (hr.mono (by decide)) XM.ln XM.lnF T.b_Script_len passL) (by rfl) T.n_len PySem.boot_len (pa_cons (pv 0) pa_nil)) (pa_cons (pe_fld (pv 0) rfl) pa_nil))) pa_nil)) (pe_callB (OGX.call_reprV hG hr.units) (by rfl) T.n_repr (by decide +kernel) (pa_cons (pe_tup (pa_cons (pe_callB call_len_seq (by rfl) T.n_len PySem.boot_len (pa_cons (pv 1) pa_nil)) (pa_cons (pv 3) pa_nil))) pa_nil)) (nomark _)) (pss_one (ps_ret pe_bl)) pss_nil)
  (pss_one (ps_ret (pe_lock (pe_callB (cr_all rfl) (by rfl) T.n_all (by decide +kernel) (pa_cons (pe_lc (own := [("name", 4)]) (g := gName 4) (by rfl) sc_l_is_told_right.nd (pi_keys (pv 2)) (blkOk_by (own := [("name", 4)]) (by rfl)) (fun _ _ _ _ _ => (pg_name (i := 4) sc_l_is_told_right.nd rfl (Or.inl rfl))) (fun _ _ _ _ _ => pts_nil) (fun _ _ _ _ _ => (pe_cmpR op_eq (pe_callB (call_reprVK K hG hr.units) (by rfl) T.n_repr (by decide +kernel) (pa_cons (pe_meth (pv 0) XT.cl XM.m_gates_of (ok_Script_gates_of T XT XM) (hr.mono (by decide)) T.b_Script_gates_of .nil passL (pa_cons (pv 4) pa_nil)) pa_nil)) (pe_callB (call_reprVK K hG hr.units) (by rfl) T.n_repr (by decide +kernel) (pa_cons (pe_dget (hu_of hr) (pv 2) (pv 4) (fun _ _ => rfl)) pa_nil)) (nomark _)))) pa_nil)))))))))), ?_⟩
    have wide : ∀ {n : Nat}, n ≤ 1000 → n ≤ sizeLine := fun h => Nat.le_trans h (by decide)
    have hl1000 : lns.length ≤ 1000 := by
      rw [L.len]
      omega
    have hn : lns ≠ [] := fun e => by
      have := L.len
      rw [e] at this
      simp at this
      omega
    refine ⟨_, rfl, lp, xs, lns, rfl, SqL.of gl, td, L.ok, hl1000, fun kd kvs H1 s1 hkd gk hk => ?_⟩
    have hX1 := hX.same s1
    obtain ⟨dx, lt, kdS, ga, fs, xsS, kvsS, hx, _, f1, f2, glS, tdS, f3, g3, f4, f5, f6, gkS, knS, f7⟩ := id hX1
    have tok := tellD_ok L n21
    have fit := L.fit
    refine ⟨_, rfl, x, T.c_Script, dx, fs, _, rfl, hx, XT.cl, XT.na1, f1, ?_⟩
    refine ⟨_, rfl, x, T.c_Script, dx, fs, _, rfl, hx, XT.cl, XT.na2, f2, wide (show 2 ≤ 1000 by decide), fun t1 ht1 => ?_⟩
    have u1 := same_new (o := .tup [.str (textT lns), .ref lt]) ht1
    refine ⟨.ref t1, tellD lns, rfl, .inl ⟨(Td.tup (SqT.of upd_same) (.cons (.str _) (.cons ((Td.tup (SqT.of glS) tdS).mv (Same.tk u1)) .nil))).dp, tok.1.nd⟩, tok.1.sh, tok.2.2, sho_fits tok.1 (Nat.le_refl _) tok.2.1 tok.2.2, ?_⟩
    have s2 := s1.trans u1
    refine ⟨_, rfl, lp, xs, lns, rfl, SqL.of (s2 _ _ gl), td.mv (Same.tk s2), fit, hl1000, fun H2 u2 => ?_⟩
    have s3 := s2.trans u2
    refine ⟨_, rfl, lp, xs, rfl, .inl ⟨SqL.of (s3 _ _ gl), fun t2 ht2 => ⟨wide (show 2 ≤ 1000 by decide), fun t3 ht3 => ?_⟩⟩⟩
    have u3 := same_new (o := .tup xs) ht2
    have u4 := same_new (o := .tup [.str (textT lns), .ref t2]) ht3
    have gt2 := u4 t2 (.tup xs) upd_same
    have s4 := s3.trans (u3.trans u4)
    refine ⟨.ref t3, tellD lns, rfl, .inl ⟨(Td.tup (SqT.of upd_same) (.cons (.str _) (.cons (.tup (SqT.of gt2) (td.mv (Same.tk s4))) .nil))).dp, tok.1.nd⟩, tok.1.sh, tok.2.2, sho_fits tok.1 (Nat.le_refl _) tok.2.1 tok.2.2, ?_⟩
    refine ⟨rfl, _, rfl, ?_⟩
    rw [decide_eq_true rfl]
    refine iteF ?_
    generalize upd (upd H2 t2 (.tup xs)) t3 (.tup [.str (textT lns), .ref t2]) = H5 at *
    have u5 : Same H1 H5 := (u1.trans u2).trans (u3.trans u4)
    obtain ⟨pre, l, el⟩ : ∃ pre l, lns = pre ++ [l] := ⟨_, _, (List.dropLast_concat_getLast hn).symm⟩
    have xn : xs ≠ [] := fun e => by
      have := td.lnLen
      rw [e, el] at this
      simp at this
    obtain ⟨ys, v, ex⟩ : ∃ ys v, xs = ys ++ [v] := ⟨_, _, (List.dropLast_concat_getLast xn).symm⟩
    have yl : ys.length = pre.length := by
      have := td.lnLen
      rw [ex, el, List.length_append, List.length_append] at this
      simp at this
      exact this
    have hv : xs[pre.length]? = some v := by
      rw [ex, ← yl, List.getElem?_append_right (Nat.le_refl _), Nat.sub_self]
      rfl
    have hl : lns[pre.length]? = some l := by
      rw [el, List.getElem?_append_right (Nat.le_refl _), Nat.sub_self]
      rfl
    obtain ⟨l', hl', hld⟩ := td.lnAt hv
    rw [hl] at hl'
    cases Option.some.inj hl'
    obtain ⟨la, lpp, rfl, hla, _⟩ := hld.ln
    have gL := glk_knOf L.ok hl
    have eG : lastG lns = l.fm.gates (knOf [] (lns.take pre.length)) := by
      unfold lastG
      rw [show lns.getLast? = some l by rw [el]; simp]
      show (glk (knOf [] lns) l.nm).getD [] = _
      rw [gL]
      rfl
    have gok : GsOk (lastG lns) := by
      rw [eG]
      exact (KnOk.of KnOk.nil L.ok).at gL
    obtain ⟨gv, gv1, gv2⟩ := hk.get gL
    rw [← eG] at gv2
    have aL : atI xs (-1) = some (.ref la) := by
      rw [ex]
      exact atI_last _ _
    have s5 := s1.trans u5
    have gw := pair_ok (sho_gs gok) (sho_int (i := (widthL lns : Nat)) (by have := width_le L.ok; omega)) (by decide) (lay_gs _).1 (by simp [PyData.canLay0]) (Nat.le_trans (lay_gs _).2 (by decide)) (by simp [PyData.depth])
    refine ⟨_, rfl, x, T.c_Script, dx, fs, _, rfl, u5 _ _ hx, XT.cl, XT.na3, f3, ?_⟩
    refine ⟨_, rfl, x, T.c_Script, dx, fs, _, rfl, u5 _ _ hx, XT.cl, XT.na4, f4, wide (show 2 ≤ 1000 by decide), fun t4 ht4 => ?_⟩
    have u6 := same_new (o := .tup [.ref ga, .int (widthL lns : Nat)]) ht4
    refine ⟨.ref t4, .tuple [gsD (lastG lns), .int (widthL lns : Nat)], rfl, .inl ⟨(Td.tup (SqT.of upd_same) (.cons (g3.mv (Same.tk (u5.trans u6))) (.cons (.int _) .nil))).dp, gw.1.nd⟩, gw.1.sh, gw.2.2, sho_fits gw.1 (Nat.le_refl _) gw.2.1 gw.2.2, ?_⟩
    have s6 := s5.trans u6
    refine ⟨_, rfl, _, rfl, _, rfl, lp, xs, -1, .ref la, rfl, rfl, SqL.of (s6 _ _ gl), aL, la, _, 0, .str l.nm, rfl, rfl, SqT.tk hla (Same.tk s6), rfl, kd, gv, rfl, .inl ⟨kvs, .inr l.nm, .inl ((u5.trans u6) _ _ gk), rfl, gv1.symm⟩, ?_⟩
    refine ⟨_, rfl, lp, xs, lns, rfl, SqL.of (s6 _ _ gl), td.mv (Same.tk s6), L.ok, hn, hl1000, fun H7 u7 => ⟨wide (show 2 ≤ 1000 by decide), fun t5 ht5 => ?_⟩⟩
    have u8 := same_new (o := .tup [gv, .int (widthL lns : Nat)]) ht5
    have s8 := (s6.trans u7).trans u8
    refine ⟨.ref t5, .tuple [gsD (lastG lns), .int (widthL lns : Nat)], rfl, .inl ⟨(Td.tup (SqT.of upd_same) (.cons (gv2.mv (Same.tk (((u5.trans u6).trans u7).trans u8))) (.cons (.int _) .nil))).dp, gw.1.nd⟩, gw.1.sh, gw.2.2, sho_fits gw.1 (Nat.le_refl _) gw.2.1 gw.2.2, ?_⟩
    refine ⟨rfl, _, rfl, ?_⟩
    rw [decide_eq_true rfl]
    refine iteF ?_
    have u9 := ((u5.trans u6).trans u7).trans u8
    generalize upd H7 t5 (.tup [gv, .int (widthL lns : Nat)]) = H8 at *
    have gl8 := s8 _ _ gl
    have td8 := td.mv (Same.tk s8)
    have xl : xs.length = lns.length := td.lnLen
    refine ⟨_, rfl, lp, rfl, ⟨_, SqL.of gl8⟩, fun D2 hD2 => ?_⟩
    refine lc_list (K := K) (a := lp) (xs := xs) (fun i H' => Same H8 H' ∧ H' D2 = some (.lst (((lns.map fun l => decide (l.fm.word = ("add" : Str))).take i).map V.bl))) ⟨same_new hD2, upd_same⟩ (fun i H' _ ⟨s, _⟩ => SqL.of (s _ _ gl8)) ?_ ?_
    · rintro i v H' hv ⟨s, g⟩
      obtain ⟨l2, hl2, hd2⟩ := td8.lnAt hv
      obtain ⟨a2, p2, rfl, ha2, _⟩ := hd2.ln
      refine ⟨rfl, ?_⟩
      refine ⟨_, rfl, a2, _, 1, .str l2.fm.word, rfl, rfl, SqT.tk ha2 (Same.tk s), rfl, rfl, _, g, ?_, fun b o e => ?_, ?_⟩
      · rw [List.length_map, List.length_take, List.length_map]
        exact Nat.lt_of_le_of_lt (show min i lns.length ≤ 1000 by omega) (by decide)
      · rw [upd_ne (ne_of_none e hD2)]
        exact s _ _ e
      · rw [upd_same, take_more (l := lns.map fun l => decide (l.fm.word = ("add" : Str))) (i := i) (x := decide (l2.fm.word = ("add" : Str))) (by rw [List.getElem?_map, hl2]; rfl), List.map_append]
        rw [show decide (V.str l2.fm.word = V.str (Str.ofString "add")) = decide (l2.fm.word = ("add" : Str)) from decide_eq_decide.mpr ⟨V.str.inj, congrArg V.str⟩]
        rfl
    rintro H9 ⟨u10, g9⟩
    rw [xl, show lns.length = (lns.map fun l => decide (l.fm.word = ("add" : Str))).length by rw [List.length_map], List.take_length] at g9
    refine ⟨D2, _, rfl, SqL.of g9, _, rfl, ?_⟩
    have u11 := u9.trans u10
    have s9 := s8.trans u10
    have hl21 : lns.length ≤ 21 := by
      rw [L.len]
      omega
    have lp' := pair_ok (sho_int (i := (lns.length : Int)) (by omega)) (sho_bl (plainL lns)) (by decide) (by simp [PyData.canLay0]) (by simp [PyData.canLay0]) (by simp [PyData.depth]) (by simp [PyData.depth])
    refine ⟨_, rfl, x, dx, fs, rfl, u11 _ _ hx, x, lns, rfl, hX1.same u11, (lns.length : Int), rfl, by omega, by omega, ?_⟩
    refine ⟨_, rfl, x, T.c_Script, dx, fs, _, rfl, u11 _ _ hx, XT.cl, XT.na5, f5, wide (show 2 ≤ 1000 by decide), fun t6 ht6 => ?_⟩
    refine ⟨.ref t6, .tuple [.int (lns.length : Int), .bool (plainL lns)], rfl, .inl ⟨(Td.tup (SqT.of upd_same) (.cons (.int _) (.cons (.bl _) .nil))).dp, lp'.1.nd⟩, lp'.1.sh, lp'.2.2, sho_fits lp'.1 (Nat.le_refl _) lp'.2.1 lp'.2.2, ?_⟩
    have u12 := same_new (o := .tup [.int (lns.length : Int), .bl (plainL lns)]) ht6
    refine ⟨_, rfl, lp, xs, rfl, .inl (SqL.of ((s9.trans u12) _ _ gl)), _, rfl, wide (show 2 ≤ 1000 by decide), fun t7 ht7 => ?_⟩
    rw [xl]
    refine ⟨.ref t7, .tuple [.int (lns.length : Int), .bool (plainL lns)], rfl, .inl ⟨(Td.tup (SqT.of upd_same) (.cons (.int _) (.cons (.bl _) .nil))).dp, lp'.1.nd⟩, lp'.1.sh, lp'.2.2, sho_fits lp'.1 (Nat.le_refl _) lp'.2.1 lp'.2.2, ?_⟩
    refine ⟨rfl, _, rfl, ?_⟩
    rw [decide_eq_true rfl]
    refine iteF ?_
    have u13 := u12.trans (same_new (o := .tup [.int (lns.length : Int), .bl (plainL lns)]) ht7)
    have e13 : upd (upd H9 t6 (.tup [.int (lns.length : Int), .bl (plainL lns)])) t7 (.tup [.int (lns.length : Int), .bl (!(lns.map fun l => decide (l.fm.word = ("add" : Str))).any id)]) = upd (upd H9 t6 (.tup [.int (lns.length : Int), .bl (plainL lns)])) t7 (.tup [.int (lns.length : Int), .bl (plainL lns)]) := rfl
    dsimp only [tNext]
    have sT := s9.trans u13
    have gk13 := (u11.trans u13) _ _ gk
    have kn13 := hk.mv (Same.tk (u11.trans u13))
    rw [show (upd (upd H9 t6 (.tup [.int (lns.length : Int), .bl (plainL lns)])) t7 (.tup [.int (lns.length : Int), .bl (!(lns.map fun l => decide (l.fm.word = Str.ofString "add")).any id)])) = upd (upd H9 t6 (.tup [.int (lns.length : Int), .bl (plainL lns)])) t7 (.tup [.int (lns.length : Int), .bl (plainL lns)]) from rfl]
    generalize upd (upd H9 t6 (.tup [.int (lns.length : Int), .bl (plainL lns)])) t7 (.tup [.int (lns.length : Int), .bl (plainL lns)]) = HT at *
    refine ⟨kd, .dK kvs, gk13, trivial, fun od => ?_⟩
    have f0 : (upd HT kd (.frz od (.dK kvs))) kd = some (.frz od (.dK kvs)) := upd_same
    have k0 : TK HT (upd HT kd (.frz od (.dK kvs))) := tk_dK gk13
    have sL : Same H (upd HT kd (.frz od (.dK kvs))) := fun b o e => by
      rw [upd_ne (ne_of_none e hkd)]
      exact sT _ _ e
    have o0 : ∀ b o, b ≠ kd → HT b = some o → (upd HT kd (.frz od (.dK kvs))) b = some o := fun b o n e => by
      rw [upd_ne n]
      exact e
    generalize upd HT kd (.frz od (.dK kvs)) = HL at *
    refine ⟨_, rfl, kd, od, rfl, .inl ⟨kvs, f0, fun D hD => ?_⟩⟩
    have kl : kvs.length = lns.length := by
      rw [hk.len, knOf_len]
      simp
    refine lc_it walk_keys (fun i H' => Same HL H' ∧ H' D = some (.lst ((List.replicate i true).map V.bl))) ⟨same_new hD, upd_same⟩ (fun i H' _ ⟨s, _⟩ => s _ _ f0) ?_ ?_
    · rintro i y H' H'' hi ⟨s, g⟩ ⟨rfl, k, v, hkv, rfl⟩
      obtain ⟨p, hp, rfl, hpv⟩ := kn13.ent hkv
      have hpv := hpv.mv (k0.trans (Same.tk s))
      have kok := KnOk.of KnOk.nil L.ok
      have pg : glk (knOf [] lns) p.1 = some p.2 := glk_mem kok.nd (List.mem_of_getElem? hp)
      have gsok := kok.gs p (List.mem_of_getElem? hp)
      have zl : (p.1 : Str).length ≤ 900000 := Nat.le_trans (L.names p.1 (List.mem_map.mpr ⟨p, List.mem_of_getElem? hp, rfl⟩)).len (by decide)
      have vk : valV kvs (.inr p.1) = some v := kn13.valAt kok.nd hkv
      have hXH := hX.same (sL.trans s)
      obtain ⟨dx2, lt2, kd2, ga2, fs2, xs2, kvs2, hx2, _, _, _, _, _, _, _, _, _, _, _, _, no2⟩ := id hXH
      refine ⟨rfl, ?_⟩
      have fitg := sho_fits (sho_gs gsok) (by decide) (lay_gs _).1 (Nat.le_trans (lay_gs _).2 (by decide))
      refine ⟨_, rfl, x, dx2, fs2, rfl, hx2, no2, _, rfl, x, .str p.1, lns, rfl, zl, hXH, .inl ⟨p.1, p.2, rfl, pg, fun u hu => ?_⟩⟩
      refine ⟨u, gsD p.2, rfl, .inl ⟨hu.dp, (sho_gs gsok).nd⟩, (sho_gs gsok).sh, Nat.le_trans (lay_gs _).2 (by decide), fitg, ?_⟩
      refine ⟨_, rfl, _, rfl, kd, v, rfl, .inl ⟨kvs, .inr p.1, .inr ⟨od, s _ _ f0⟩, rfl, vk.symm⟩, ?_⟩
      refine ⟨v, gsD p.2, rfl, .inl ⟨hpv.dp, (sho_gs gsok).nd⟩, (sho_gs gsok).sh, Nat.le_trans (lay_gs _).2 (by decide), fitg, ?_⟩
      refine ⟨rfl, ?_⟩
      rw [decide_eq_true rfl]
      refine ⟨_, g, ?_, fun b o e => ?_, ?_⟩
      · rw [List.length_map, List.length_replicate]
        exact Nat.lt_of_le_of_lt (show i ≤ 1000 by omega) (by decide)
      · rw [upd_ne (ne_of_none e hD)]
        exact s _ _ e
      · rw [upd_same, List.replicate_succ', List.map_append]
        rfl
    rintro HF ⟨s, g⟩
    refine ⟨D, _, rfl, SqL.of g, ?_⟩
    rw [show (List.replicate kvs.length true).all id = true by simp]
    refine ⟨s _ _ f0, ?_⟩
    refine q _ fun b o e => ?_
    rw [upd_ne (ne_of_none e hkd)]
    exact s _ _ (sL _ _ e)
end
end OG
set_option Elab.async false
set_option linter.all false
set_option maxRecDepth 100000
set_option maxHeartbeats 4000000
namespace OGX
open PySem PySem.Spec PyProof.Rows L2
/-- what a zip draws from: an iterator at i over what stands at l; J k says that k items are gone -/
structure Src (i l : Addr) (items : Array Value) (J : Nat → Heap → Prop) : Prop where
  keep : ∀ {k : Nat} {h h' : Heap}, J k h → (∀ c o, c = i ∨ c = l → h.get? c = some o → h'.get? c = some o) → J k h'
  item : ∀ {P : Program} {w : World} {A : Around} {E : Value → Shared → Prop} {s : Shared} {k : Nat} {x : Value} {Q : Value → Shared → Prop}, J k s.heap → items[k]? = some x → (∀ h', J (k + 1) h' → Heap.SameBut i s.heap h' → Q x { s with heap := h' }) →
    wpAny (model P w) A (Builtin.SmallTypes.nextOf (.ref i)) Q E s
  done : ∀ {P : Program} {w : World} {A : Around} {E : Value → Shared → Prop} {s : Shared} {k : Nat} {Q : Value → Shared → Prop}, A.handled = none → J k s.heap → items[k]? = none →
    (∀ h' e, Heap.ExtBut i s.heap h' → (∃ o, h'.get? e = some o ∧ o.cls = .type "StopIteration") → E (.ref e) { s with heap := h' }) → wpAny (model P w) A (Builtin.SmallTypes.nextOf (.ref i)) Q E s
theorem src_tup {i l : Addr} {items : Array Value} (n : l ≠ i) : Src i l items fun k h => h.IsTupleIter i l k ∧ h.IsTuple l items where
  keep := fun ⟨a, b⟩ f => ⟨a.at fun o e => f i o (.inl rfl) e, b.at fun o e => f l o (.inr rfl) e⟩
  item := fun ⟨a, b⟩ hx q => RZ.nextOf_tuple_item a b hx fun h' a' sb => q h' ⟨a', b.extBut sb.extBut n⟩ sb
  done := fun hh ⟨a, b⟩ hx q => RZ.nextOf_tuple_end hh a b hx q
theorem src_lst {i l : Addr} {items : Array Value} (n : l ≠ i) : Src i l items fun k h => h.IsListIter i l k ∧ h.IsList l items where
  keep := fun ⟨a, b⟩ f => ⟨a.at fun o e => f i o (.inl rfl) e, b.at fun o e => f l o (.inr rfl) e⟩
  item := fun ⟨a, b⟩ hx q => wpAny_nextOf_list_item a b hx fun h' a' sb => q h' ⟨a', b.extBut sb.extBut n⟩ sb
  done := fun hh ⟨a, b⟩ hx q => wpAny_nextOf_list_end hh a b hx q
section
variable {P : Program} {w : World} {A : Around} {E : Value → Shared → Prop} {s : Shared} {z TI TO i1 i2 l1 l2 : Addr} {xs ys : Array Value} {J1 J2 : Nat → Heap → Prop} {k1 k2 : Nat} {a b : Value}
/-- what stands in z, TO, i1, i2 may change -/
def Zk (z TO i1 i2 : Addr) (h h' : Heap) : Prop := ∀ c o, c ≠ z → c ≠ TO → c ≠ i1 → c ≠ i2 → h.get? c = some o → h'.get? c = some o
theorem zip_more (D : ZipApart z TI TO i1 i2 l1 l2) (S1 : Src i1 l1 xs J1) (S2 : Src i2 l2 ys J2) {x y : Value} {Q : Value → Shared → Prop} (hz : IsZip s.heap z TI TO .none) (hI : IsPair s.heap TI (.ref i1) (.ref i2)) (hO : IsPair s.heap TO a b)
    (j1 : J1 k1 s.heap) (j2 : J2 k2 s.heap) (hx : xs[k1]? = some x) (hy : ys[k2]? = some y)
    (q : ∀ h', IsZip h' z TI TO (rawInt s.heap.objs.size) → IsPair h' TO x y → J1 (k1 + 1) h' → J2 (k2 + 1) h' → IsPair h' s.heap.objs.size x y → h'.objs.size = s.heap.objs.size + 1 → Zk z TO i1 i2 s.heap h' → Q (.ref s.heap.objs.size) { s with heap := h' }) :
    wpAny (model P w) A (Builtin.«zip.__next__» ⟨[.ref z], []⟩) (fun fin s' => ∃ v, fin = .done (.ret v) ∧ Q v s') E s := by
  have k1at : ∀ {n : Nat} {h h' : Heap} {c : Addr}, Heap.ExtBut c h h' → i1 ≠ c → l1 ≠ c → J1 n h → J1 n h' := fun e n1 n2 j => S1.keep j fun d o hd g => e d o (by rcases hd with rfl | rfl <;> assumption) g
  have k2at : ∀ {n : Nat} {h h' : Heap} {c : Addr}, Heap.ExtBut c h h' → i2 ≠ c → l2 ≠ c → J2 n h → J2 n h' := fun e n1 n2 j => S2.keep j fun d o hd g => e d o (by rcases hd with rfl | rfl <;> assumption) g
  change wpAny _ _ (field (.ref z) 2 >>= _) _ _ _
  refine wpAny_bind (wpAny_field hz rfl (x := .bool false) rfl ?_)
  change wpAny _ _ (field (.ref z) 3 >>= _) _ _ _
  refine wpAny_bind (wpAny_field hz rfl (x := .ref TI) rfl (wpAny_bind (wpAny_seqItems hI rfl ?_)))
  change wpAny _ _ (Builtin.SmallTypes.ownedTupleIsFree (.ref z) >>= _) _ _ _
  unfold Builtin.SmallTypes.ownedTupleIsFree
  refine wpAny_bind (wpAny_bind (wpAny_field hz rfl (x := .none) rfl (wpAny_pure ?_)))
  simp only [if_true]
  refine wpAny_bind (wpAny_rule (wpAny_bind (wpAny_field hz rfl (x := .ref TO) rfl (wpAny_bind (wpAny_setField_rec hz (by simp) fun ha za ea => ?_)))))
  replace za : IsZip ha z TI TO .ellipsis := za
  have ea' := ea.extBut
  simp only [List.zipIdx_cons, List.zipIdx_nil, List.forIn_cons, List.forIn_nil]
  refine wpAny_bind (wpAny_bind (wpAny_bind (wpAny_onRaise ?_)))
  change wpAny _ _ (Builtin.SmallTypes.nextOf (.ref i1) >>= _) _ _ _
  refine wpAny_bind (S1.item (s := { s with heap := ha }) (k1at ea' D.i1z D.l1z j1) hx fun hb jb eb => wpAny_pure ?_)
  have eb' := eb.extBut
  have ob : IsPair hb TO a b := eb' _ _ D.TOi1 (ea' _ _ D.TOz hO)
  refine wpAny_bind (wpAny_seqItems ob rfl (wpAny_bind (wpAny_updateSeq_pair ob fun hc oc ec => ?_)))
  replace oc : IsPair hc TO x b := oc
  have ec' := ec.extBut
  refine wpAny_bind (wpAny_letGo (wpAny_pure ?_))
  refine wpAny_bind (wpAny_bind (wpAny_onRaise ?_))
  change wpAny _ _ (Builtin.SmallTypes.nextOf (.ref i2) >>= _) _ _ _
  refine wpAny_bind (S2.item (s := { s with heap := hc }) (k2at ec' D.TOi2.symm D.l2TO (k2at eb' D.i12.symm D.l2i1 (k2at ea' D.i2z D.l2z j2))) hy fun hd jd ed => wpAny_pure ?_)
  have ed' := ed.extBut
  have od : IsPair hd TO x b := ed' _ _ D.TOi2 oc
  refine wpAny_bind (wpAny_seqItems od rfl (wpAny_bind (wpAny_updateSeq_pair od fun he oe ee => ?_)))
  replace oe : IsPair he TO x y := oe
  have ee' := ee.extBut
  refine wpAny_bind (wpAny_letGo (wpAny_pure (wpAny_pure ?_)))
  refine wpAny_bind (wpAny_seqItems oe rfl (wpAny_bind (wpAny_newTuple ?_)))
  have size : he.objs.size = s.heap.objs.size := by rw [ee.1, ed.1, ec.1, eb.1, ea.1]
  have ze : IsZip he z TI TO .ellipsis := ee' _ _ D.TOz.symm (ed' _ _ D.i2z.symm (ec' _ _ D.TOz.symm (eb' _ _ D.i1z.symm za)))
  have all : Zk z TO i1 i2 s.heap he := fun c o n1 n2 n3 n4 g => ee' _ _ n2 (ed' _ _ n4 (ec' _ _ n2 (eb' _ _ n3 (ea' _ _ n1 g))))
  have f1 : J1 (k1 + 1) he := k1at ee' D.TOi1.symm D.l1TO (k1at ed' D.i12 D.l1i2 (k1at ec' D.TOi1.symm D.l1TO jb))
  have f2 : J2 (k2 + 1) he := k2at ee' D.TOi2.symm D.l2TO jd
  have ltz : z < he.objs.size := Heap.lt_size ze
  change wpAny _ _ (Builtin.SmallTypes.ownedTupleHandOut (.ref z) (.ref he.objs.size) >>= _) _ _ _
  unfold Builtin.SmallTypes.ownedTupleHandOut
  have zf : IsZip (he.push { cls := .type "tuple", data := .seq #[x, y] }) z TI TO .ellipsis := Heap.get?_push_of_some _ ze
  refine wpAny_bind (wpAny_bind (wpAny_setField_rec zf (by simp) fun hg zg eg => ?_))
  replace zg : IsZip hg z TI TO (rawInt he.objs.size) := zg
  refine wpAny_setField_rec zg (by simp) fun hh zh eh => wpAny_pure ⟨_, rfl, ?_⟩
  replace zh : IsZip hh z TI TO (rawInt he.objs.size) := zh
  have fin : ∀ c o, c ≠ z → (he.push { cls := .type "tuple", data := .seq #[x, y] }).get? c = some o → hh.get? c = some o := fun c o n g => eh.extBut _ _ n (eg.extBut _ _ n g)
  have up : ∀ c o, c ≠ z → he.get? c = some o → hh.get? c = some o := fun c o n g => fin c o n (Heap.get?_push_of_some _ g)
  have tup : IsPair hh he.objs.size x y := fin _ _ (Nat.ne_of_gt ltz) (Heap.get?_push_size _ rfl)
  have sz : hh.objs.size = he.objs.size + 1 := by rw [eh.1, eg.1, Heap.size_push]
  rw [size] at zh tup sz
  change Q (.ref he.objs.size) _
  rw [size]
  exact q hh zh (up _ _ D.TOz oe) (S1.keep f1 fun c o hc g => up c o (by rcases hc with rfl | rfl; exact D.i1z; exact D.l1z) g) (S2.keep f2 fun c o hc g => up c o (by rcases hc with rfl | rfl; exact D.i2z; exact D.l2z) g) tup sz
    fun c o n1 n2 n3 n4 g => up c o n1 (all c o n1 n2 n3 n4 g)
theorem zip_over (hn : A.handled = none) (D : ZipApart z TI TO i1 i2 l1 l2) (S1 : Src i1 l1 xs J1) (S2 : Src i2 l2 ys J2) {Q : Fin → Shared → Prop} (hz : IsZip s.heap z TI TO .none) (hI : IsPair s.heap TI (.ref i1) (.ref i2)) (hO : IsPair s.heap TO a b)
    (j1 : J1 k1 s.heap) (j2 : J2 k2 s.heap) (out : xs[k1]? = none ∨ ys[k2]? = none)
    (q : ∀ h' e, Zk z TO i1 i2 s.heap h' → (∃ o, h'.get? e = some o ∧ o.cls = .type "StopIteration") → E (.ref e) { s with heap := h' }) : wpAny (model P w) A (Builtin.«zip.__next__» ⟨[.ref z], []⟩) Q E s := by
  have k1at : ∀ {n : Nat} {h h' : Heap} {c : Addr}, Heap.ExtBut c h h' → i1 ≠ c → l1 ≠ c → J1 n h → J1 n h' := fun e n1 n2 j => S1.keep j fun d o hd g => e d o (by rcases hd with rfl | rfl <;> assumption) g
  have k2at : ∀ {n : Nat} {h h' : Heap} {c : Addr}, Heap.ExtBut c h h' → i2 ≠ c → l2 ≠ c → J2 n h → J2 n h' := fun e n1 n2 j => S2.keep j fun d o hd g => e d o (by rcases hd with rfl | rfl <;> assumption) g
  change wpAny _ _ (field (.ref z) 2 >>= _) _ _ _
  refine wpAny_bind (wpAny_field hz rfl (x := .bool false) rfl ?_)
  change wpAny _ _ (field (.ref z) 3 >>= _) _ _ _
  refine wpAny_bind (wpAny_field hz rfl (x := .ref TI) rfl (wpAny_bind (wpAny_seqItems hI rfl ?_)))
  change wpAny _ _ (Builtin.SmallTypes.ownedTupleIsFree (.ref z) >>= _) _ _ _
  unfold Builtin.SmallTypes.ownedTupleIsFree
  refine wpAny_bind (wpAny_bind (wpAny_field hz rfl (x := .none) rfl (wpAny_pure ?_)))
  simp only [if_true]
  refine wpAny_bind (wpAny_rule (wpAny_bind (wpAny_field hz rfl (x := .ref TO) rfl (wpAny_bind (wpAny_setField_rec hz (by simp) fun ha za ea => ?_)))))
  replace za : IsZip ha z TI TO .ellipsis := za
  have ea' := ea.extBut
  simp only [List.zipIdx_cons, List.zipIdx_nil, List.forIn_cons, List.forIn_nil]
  refine wpAny_bind (wpAny_bind (wpAny_bind (wpAny_onRaise ?_)))
  change wpAny _ _ (Builtin.SmallTypes.nextOf (.ref i1) >>= _) _ _ _
  have ze : ∀ {h : Heap} {e : Addr} {o : Obj}, IsZip h z TI TO .ellipsis → h.get? e = some o → o.cls = .type "StopIteration" → e ≠ z := fun {h e o} g g' gc x => by
    rw [x, g] at g'
    cases g'
    simp at gc
  by_cases hx : xs[k1]? = none
  · refine wpAny_bind (S1.done (s := { s with heap := ha }) hn (k1at ea' D.i1z D.l1z j1) hx fun hb e eb he => ?_)
    obtain ⟨oe, g, gc⟩ := he
    have zb : IsZip hb z TI TO .ellipsis := eb _ _ D.i1z.symm za
    exact wpAny_setField_rec zb (by simp) fun hc _ ec => q hc e (fun c o n1 _ n3 _ g' => ec.extBut _ _ n1 (eb _ _ n3 (ea' _ _ n1 g'))) ⟨oe, ec.extBut _ _ (ze zb g gc) g, gc⟩
  · obtain ⟨x, hx⟩ : ∃ x, xs[k1]? = some x := Option.ne_none_iff_exists'.mp hx
    have hy : ys[k2]? = none := out.resolve_left (by rw [hx]; simp)
    refine wpAny_bind (S1.item (s := { s with heap := ha }) (k1at ea' D.i1z D.l1z j1) hx fun hb jb eb => wpAny_pure ?_)
    have eb' := eb.extBut
    have ob : IsPair hb TO a b := eb' _ _ D.TOi1 (ea' _ _ D.TOz hO)
    refine wpAny_bind (wpAny_seqItems ob rfl (wpAny_bind (wpAny_updateSeq_pair ob fun hc oc ec => ?_)))
    have ec' := ec.extBut
    refine wpAny_bind (wpAny_letGo (wpAny_pure ?_))
    refine wpAny_bind (wpAny_bind (wpAny_onRaise ?_))
    change wpAny _ _ (Builtin.SmallTypes.nextOf (.ref i2) >>= _) _ _ _
    refine wpAny_bind (S2.done (s := { s with heap := hc }) hn (k2at ec' D.TOi2.symm D.l2TO (k2at eb' D.i12.symm D.l2i1 (k2at ea' D.i2z D.l2z j2))) hy fun hd e ed he => ?_)
    obtain ⟨oe, g, gc⟩ := he
    have zd : IsZip hd z TI TO .ellipsis := ed _ _ D.i2z.symm (ec' _ _ D.TOz.symm (eb' _ _ D.i1z.symm za))
    exact wpAny_setField_rec zd (by simp) fun hf _ ef => q hf e (fun c o n1 n2 n3 n4 g' => ef.extBut _ _ n1 (ed _ _ n4 (ec' _ _ n2 (eb' _ _ n3 (ea' _ _ n1 g'))))) ⟨oe, ef.extBut _ _ (ze zd g gc) g, gc⟩
theorem next_more (D : ZipApart z TI TO i1 i2 l1 l2) (S1 : Src i1 l1 xs J1) (S2 : Src i2 l2 ys J2) {x y : Value} {Q : Option Value → Shared → Prop} (hz : IsZip s.heap z TI TO .none) (hI : IsPair s.heap TI (.ref i1) (.ref i2)) (hO : IsPair s.heap TO a b)
    (j1 : J1 k1 s.heap) (j2 : J2 k2 s.heap) (hx : xs[k1]? = some x) (hy : ys[k2]? = some y)
    (q : ∀ h', IsZip h' z TI TO (rawInt s.heap.objs.size) → IsPair h' TO x y → J1 (k1 + 1) h' → J2 (k2 + 1) h' → IsPair h' s.heap.objs.size x y → h'.objs.size = s.heap.objs.size + 1 → Zk z TO i1 i2 s.heap h' → Q (some (.ref s.heap.objs.size)) { s with heap := h' }) :
    wpAny (model P w) A (pyNext (.ref z)) Q E s := by
  have ty : s.TypeIs (.ref z) "zip" := ⟨_, hz, rfl⟩
  unfold pyNext
  refine wpAny_bind (wpAny_attempt (wpAny_callSpecial?_slot (name := Str.ofString "__next__") ty F.slot_zip_next (wpAny_call_entry F.slot_zip_next ty F.entry_zip_next (zip_more D S1 S2 hz hI hO j1 j2 hx hy fun h' r1 r2 r3 r4 r5 r6 r7 => ?_) (F.args_zip_next_1 _))))
  exact wpAny_pure (q h' r1 r2 r3 r4 r5 r6 r7)
theorem next_over (hn : A.handled = none) (D : ZipApart z TI TO i1 i2 l1 l2) (S1 : Src i1 l1 xs J1) (S2 : Src i2 l2 ys J2) {Q : Option Value → Shared → Prop} (hz : IsZip s.heap z TI TO .none) (hI : IsPair s.heap TI (.ref i1) (.ref i2)) (hO : IsPair s.heap TO a b)
    (j1 : J1 k1 s.heap) (j2 : J2 k2 s.heap) (out : xs[k1]? = none ∨ ys[k2]? = none) (q : ∀ h', Zk z TO i1 i2 s.heap h' → Q none { s with heap := h' }) : wpAny (model P w) A (pyNext (.ref z)) Q E s := by
  have ty : s.TypeIs (.ref z) "zip" := ⟨_, hz, rfl⟩
  unfold pyNext
  refine wpAny_bind (wpAny_attempt (wpAny_callSpecial?_slot (name := Str.ofString "__next__") ty F.slot_zip_next (wpAny_call_entry F.slot_zip_next ty F.entry_zip_next (zip_over (A := A.in1) (show A.in1.handled = none from hn) D S1 S2 hz hI hO j1 j2 out fun h' e k he => ?_) (F.args_zip_next_1 _))))
  obtain ⟨o, g, gc⟩ := he
  exact wpAny_bind (wpAny_isInstance (T := "StopIteration") (b := true) ⟨o, g, gc⟩ isSubtype_stop (wpAny_pure (q _ k)))
end
/-! zip(t, l), t a tuple and l a list -/
def tupIt (l : Addr) : Obj := { cls := .type "tuple_iterator", data := .fields #[.ref l, .int 0 0] }
def lstIt (l : Addr) : Obj := { cls := .type "list_iterator", data := .fields #[.ref l, .int 0 0] }
def zip1 (h : Heap) (l1 : Addr) : Heap := h.push (tupIt l1)
def zip2 (h : Heap) (l1 l2 : Addr) : Heap := (zip1 h l1).push (lstIt l2)
def zip3 (h : Heap) (l1 l2 : Addr) : Heap := (zip2 h l1 l2).push { cls := .type "tuple", data := .seq #[.ref h.objs.size, .ref (zip1 h l1).objs.size] }
def zip4 (h : Heap) (l1 l2 : Addr) : Heap := (zip3 h l1 l2).push { cls := .type "tuple", data := .seq #[.none, .none] }
def zip5 (h : Heap) (l1 l2 : Addr) : Heap := (zip4 h l1 l2).push { cls := .type "zip", data := .fields #[.none, .bool false, .bool false, .ref (zip2 h l1 l2).objs.size, .ref (zip3 h l1 l2).objs.size] }
theorem zip_makes (l1 l2 : Addr) (xs ys : Array Value) : Meets (Builtin.«zip.__new__» ⟨[.type "zip", .ref l1, .ref l2], []⟩) (fun _ R s => s.heap.IsTuple l1 xs ∧ s.heap.IsList l2 ys ∧ R (.ok (.ret (.ref (zip4 s.heap l1 l2).objs.size))) { s with heap := zip5 s.heap l1 l2 }) := by
  refine .of_wp fun prog w A R s h => ?_
  obtain ⟨hp, g, d, tk, os⟩ := s
  obtain ⟨a1, a2, h⟩ := h
  have sub := sub_zip
  have b1 : Heap.IsTuple (Shared.heap ⟨hp, g, d, tk, os⟩) l1 xs := a1
  have b2 : Heap.IsList (Shared.heap ⟨hp.push { cls := .type "tuple_iterator", data := .fields #[.ref l1, .int 0 0] }, g, d, tk, os⟩) l2 ys := Heap.IsList.push a2 _
  wp_walk using wpAny_pyIter_tuple b1, wpAny_pyIter_list b2
  exact ⟨_, rfl, h⟩
theorem call_zipM {P : Program} {w : World} {A : Around} {E : Value → Shared → Prop} {s : Shared} {l1 l2 : Addr} {xs ys : Array Value} {Q : Value → Shared → Prop} (h1 : s.heap.IsTuple l1 xs) (h2 : s.heap.IsList l2 ys)
    (q : ∀ h', IsZip h' (s.heap.objs.size + 4) (s.heap.objs.size + 2) (s.heap.objs.size + 3) .none → IsPair h' (s.heap.objs.size + 2) (.ref s.heap.objs.size) (.ref (s.heap.objs.size + 1)) → IsPair h' (s.heap.objs.size + 3) .none .none →
      h'.IsTupleIter s.heap.objs.size l1 0 → h'.IsListIter (s.heap.objs.size + 1) l2 0 → (∀ c o, s.heap.get? c = some o → h'.get? c = some o) → Q (.ref (s.heap.objs.size + 4)) { s with heap := h' }) :
    wpAny (model P w) A (call (.type "zip") [.ref l1, .ref l2]) Q E s := by
  refine callType_new F.called_zip (by decide) (F.typeCall_zip_2 _ _) (F.newCall_zip_2 _ _) (fun obj => F.args_object_init_3 obj _ _) F.entry_zip_new (zip_makes l1 l2 xs ys) ⟨h1, h2, ?_⟩
  have n1 : (zip1 s.heap l1).objs.size = s.heap.objs.size + 1 := Heap.size_push ..
  have n2 : (zip2 s.heap l1 l2).objs.size = s.heap.objs.size + 2 := (Heap.size_push ..).trans (congrArg (· + 1) n1)
  have n3 : (zip3 s.heap l1 l2).objs.size = s.heap.objs.size + 3 := (Heap.size_push ..).trans (congrArg (· + 1) n2)
  have n4 : (zip4 s.heap l1 l2).objs.size = s.heap.objs.size + 4 := (Heap.size_push ..).trans (congrArg (· + 1) n3)
  have on : ∀ {h : Heap} {o : Obj} {c : Addr} {u : Obj}, h.get? c = some u → (h.push o).get? c = some u := fun g => Heap.get?_push_of_some _ g
  have e1 : (zip5 s.heap l1 l2).get? s.heap.objs.size = some (tupIt l1) := on (on (on (on (Heap.get?_push_size _ rfl))))
  have e2 : (zip5 s.heap l1 l2).get? (zip1 s.heap l1).objs.size = some (lstIt l2) := on (on (on (Heap.get?_push_size _ rfl)))
  have e3 : IsPair (zip5 s.heap l1 l2) (zip2 s.heap l1 l2).objs.size (.ref s.heap.objs.size) (.ref (zip1 s.heap l1).objs.size) := on (on (Heap.get?_push_size _ rfl))
  have e4 : IsPair (zip5 s.heap l1 l2) (zip3 s.heap l1 l2).objs.size .none .none := on (Heap.get?_push_size _ rfl)
  have e5 : IsZip (zip5 s.heap l1 l2) (zip4 s.heap l1 l2).objs.size (zip2 s.heap l1 l2).objs.size (zip3 s.heap l1 l2).objs.size .none := Heap.get?_push_size _ rfl
  rw [n4, n2, n3] at e5
  rw [n2, n1] at e3
  rw [n3] at e4
  rw [n1] at e2
  show _ ∧ _
  rw [n4]
  exact ⟨⟨_, e5, rfl⟩, q _ e5 e3 e4 ⟨_, e1, rfl, rfl⟩ ⟨_, e2, rfl, rfl⟩ fun c o g => on (on (on (on (on g))))⟩
/-- the tuple at a and the list at b as they stand at each turn -/
def ItzM (K : PySem.W.Frag) (a b : Addr) : It where
  go := fun i H => ∃ (xs ys : List V) (x y : V), SqT K H a xs ∧ SqL K H b ys ∧ xs[i]? = some x ∧ ys[i]? = some y
  yld := fun i H v H' => ∃ T x y, v = .ref T ∧ H T = none ∧ H' = upd H T (.tup [x, y]) ∧ (∀ xs, SqT K H a xs → xs[i]? = some x) ∧ ∀ ys, SqL K H b ys → ys[i]? = some y
  stop := fun i H => ∃ xs ys : List V, SqT K H a xs ∧ SqL K H b ys ∧ (xs.length ≤ i ∨ ys.length ≤ i)
def zfp (z TI TO i1 i2 : Addr) : List Addr := [z, TI, TO, i1, i2]
theorem zfp_at {z TI TO i1 i2 c : Addr} (h : c ∈ zfp z TI TO i1 i2) : c = z ∨ c = TI ∨ c = TO ∨ c = i1 ∨ c = i2 := by simpa [zfp] using h
theorem zfp_of {z TI TO i1 i2 c : Addr} (h : c = z ∨ c = TI ∨ c = TO ∨ c = i1 ∨ c = i2) : c ∈ zfp z TI TO i1 i2 := by simpa [zfp] using h
def ZAt (z TI TO i1 i2 a b : Addr) (k : Nat) (h : Heap) : Prop := IsZip h z TI TO .none ∧ IsPair h TI (.ref i1) (.ref i2) ∧ (∃ x y, IsPair h TO x y) ∧ h.IsTupleIter i1 a k ∧ h.IsListIter i2 b k
theorem turn_zipM {P : Program} {w : World} {K : PySem.W.Frag} {elts : List Expr} {kk : Nat} {tpos : Pos} {a b z TI TO i1 i2 : Addr} (D : ZipApart z TI TO i1 i2 a b) : Turn P w K (.Tuple elts kk tpos) (ItzM K a b) (zfp z TI TO i1 i2) z (ZAt z TI TO i1 i2 a b) where
  mem := zfp_of (.inl rfl)
  obj := by
    rintro k h ⟨g1, g2, ⟨x, y, g3⟩, ⟨o1, g4, _, d4⟩, ⟨o2, g5, _, d5⟩⟩ c hc
    rcases zfp_at hc with rfl | rfl | rfl | rfl | rfl
    · exact ⟨_, g1, fun v e => by cases e⟩
    · exact ⟨_, g2, fun v e => by cases e⟩
    · exact ⟨_, g3, fun v e => by cases e⟩
    · exact ⟨o1, g4, fun v e => by rw [d4] at e; cases e⟩
    · exact ⟨o2, g5, fun v e => by rw [d5] at e; cases e⟩
  keep := by
    rintro k h h' ⟨g1, g2, ⟨x, y, g3⟩, g4, g5⟩ f
    exact ⟨f _ (zfp_of (.inl rfl)) _ g1, f _ (zfp_of (.inr (.inl rfl))) _ g2, ⟨x, y, f _ (zfp_of (.inr (.inr (.inl rfl)))) _ g3⟩, g4.at fun o e => f _ (zfp_of (.inr (.inr (.inr (.inl rfl))))) o e, g5.at fun o e => f _ (zfp_of (.inr (.inr (.inr (.inr rfl))))) o e⟩
  item := by
    rintro X rfl rfl rfl hc k pins s σ H E I hf ⟨g1, g2, ⟨x0, y0, g3⟩, g4, g5⟩ ⟨xs, ys, x, y, qx, qy, hx, hy⟩
    obtain ⟨us, ru, tu, _⟩ := I.tuple qx
    obtain ⟨vs, rv, lv, _⟩ := I.list qy
    obtain ⟨u, hu, ux⟩ := ru.get hx
    obtain ⟨v, hv, vy⟩ := rv.get hy
    have hzl : z < s.heap.objs.size := Heap.lt_size g1
    refine next_more D (src_tup D.l1i1) (src_lst D.l2i2) g1 g2 g3 ⟨g4, tu⟩ ⟨g5, lv.isList⟩ (x := u) (y := v) (by simpa using hu) (by simpa using hv) fun h' r1 r2 r3 r4 r5 r6 r7 => ?_
    refine ⟨_, rfl, wpAny_letOwnedTupleGo_zip (s := { s with heap := h' }) r1 fun h2 z2 sb => ?_⟩
    have tp : h2.get? s.heap.objs.size = some { cls := .type "tuple", data := .seq #[u, v] } := (sb.2 _ (Nat.ne_of_gt hzl)).trans r5
    have ob : ObjOk X.prog X.w (upd H s.heap.objs.size (.tup [x, y])) h2 s.heap.objs.size (.tup [x, y]) := ⟨by show 2 ≤ sizeLine; decide, [u, v], .cons ux (.cons vy .nil), ⟨_, tp, rfl, _, rfl⟩⟩
    have far : ∀ c o, c ∉ zfp z TI TO i1 i2 → s.heap.get? c = some o → h2.get? c = some o := fun c o n e =>
      (sb.2 c fun e' => n (zfp_of (.inl e'))).trans (r7 c o (fun e' => n (zfp_of (.inl e'))) (fun e' => n (zfp_of (.inr (.inr (.inl e'))))) (fun e' => n (zfp_of (.inr (.inr (.inr (.inl e')))))) (fun e' => n (zfp_of (.inr (.inr (.inr (.inr e')))))) e)
    have I2 : Inv X pins σ (upd H s.heap.objs.size (.tup [x, y])) { s with heap := h2 } := I.turnedNew (t' := s.toks) (ch := zfp z TI TO i1 i2) far hf (Nat.le_refl _) ob
    refine ⟨.ref s.heap.objs.size, _, I2, rfl, ⟨_, x, y, rfl, I.hok.fresh (Nat.le_refl _), rfl, fun l hl => by rw [I.tuple_inj hl qx]; exact hx, fun l hl => by rw [I.list_inj hl qy]; exact hy⟩, ⟨z2, ?_, ⟨u, v, ?_⟩, ?_, ?_⟩, fun c hcm => ?_⟩
    · exact (sb.2 _ D.TIz).trans (r7 _ _ D.TIz D.TITO D.TIi1 D.TIi2 g2)
    · exact (sb.2 _ D.TOz).trans r2
    · exact r3.1.at fun o q => (sb.2 _ D.i1z).trans q
    · exact r4.1.at fun o q => (sb.2 _ D.i2z).trans q
    · have lt : c < s.heap.objs.size := by
        rcases zfp_at hcm with rfl | rfl | rfl | rfl | rfl
        · exact hzl
        · exact Heap.lt_size g2
        · exact Heap.lt_size g3
        · obtain ⟨_, e, _⟩ := g4
          exact Heap.lt_size e
        · obtain ⟨_, e, _⟩ := g5
          exact Heap.lt_size e
      rw [upd_ne (Nat.ne_of_lt lt)]
      exact (hf c hcm).1
  done := by
    rintro X rfl rfl rfl hc k pins s σ H E I hf ⟨g1, g2, ⟨x0, y0, g3⟩, g4, g5⟩ ⟨xs, ys, qx, qy, fin⟩
    obtain ⟨us, ru, tu, _⟩ := I.tuple qx
    obtain ⟨vs, rv, lv, _⟩ := I.list qy
    have e1 := ru.length
    have e2 := rv.length
    refine next_over (I.ok.hd hc) D (src_tup D.l1i1) (src_lst D.l2i2) g1 g2 g3 ⟨g4, tu⟩ ⟨g5, lv.isList⟩ (fin.imp (fun q => by simp; omega) fun q => by simp; omega) fun h' r => ⟨rfl, ?_⟩
    exact I.turnedL (t' := s.toks) (ch := zfp z TI TO i1 i2) (fun c o n e => r c o (fun e' => n (zfp_of (.inl e'))) (fun e' => n (zfp_of (.inr (.inr (.inl e'))))) (fun e' => n (zfp_of (.inr (.inr (.inr (.inl e')))))) (fun e' => n (zfp_of (.inr (.inr (.inr (.inr e')))))) e) hf
  self := fun A k s Q E st h => wpAny_pyIter_zip st.1 h
def iZipM (K : PySem.W.Frag) (ta : TA) : TI := fun σ H R => ta σ H fun vs H1 => ∃ a b xs ys, vs = [.ref a, .ref b] ∧ SqT K H1 a xs ∧ SqL K H1 b ys ∧ R (ItzM K a b) H1
theorem pi_zipM {X : Cx} {e e2 : Expr} {ta : TA} {p pos tpos : Pos} {elts : List Expr} {kk : Nat} (hg : Gl X "zip") (hm : X.mg "zip" = none) (ha : PA X [e, e2] ta)
    (hs : starEach [e, e2] X.env = (false, eval e X.env) :: starEach [e2] X.env := by rfl) (hpl : (backTo pos (starEach [e2] X.env)).any (·.1) = false := by rfl) : PI X (.Tuple elts kk tpos) (.Call (.Name "zip" p) [e, e2] [] pos) (iZipM X.K ta) := by
  constructor
  intro pins s σ H R I h
  refine Call_ (ld_blt I hg hm PyProof.Rows.boot_zip (PyProof.Rows.callWith_type1 (thn (ha.run pos pins s σ H _ I h) fun us s1 hq => ?_) hs hpl))
  obtain ⟨_, H1, I1, r1, a, b, xs, ys, rfl, qx, qy, q⟩ := hq
  obtain ⟨u1, ur, rfl, ra, r1⟩ : ∃ u1 ur, us = u1 :: ur ∧ RelV (.ref a) u1 ∧ Vals [.ref b] ur := by
    cases r1 with
    | cons r rr => exact ⟨_, _, rfl, r, rr⟩
  obtain ⟨u2, rfl, rb⟩ := vals1 r1
  cases ra
  cases rb
  obtain ⟨us', ru, tu, _⟩ := I1.tuple qx
  obtain ⟨vs', rv, lv, _⟩ := I1.list qy
  obtain ⟨o1, ho1, _⟩ := id tu
  refine call_zipM tu lv.isList fun h' z1 z2 z3 z4 z5 kp => wpAny_pyIter_zip z1 ?_
  refine ⟨s1.heap.objs.size + 4, zfp (s1.heap.objs.size + 4) (s1.heap.objs.size + 2) (s1.heap.objs.size + 3) s1.heap.objs.size (s1.heap.objs.size + 1), _, _, H1, rfl, I1.kept (t' := s1.toks) kp, turn_zipM (PySem.W.ktu_apart s1.heap.objs.size a b (Heap.lt_size ho1) lv.lt), ⟨z1, z2, ⟨_, _, z3⟩, z4, z5⟩, fun c hc => ?_, q⟩
  have le : s1.heap.objs.size ≤ c := by
    rcases zfp_at hc with rfl | rfl | rfl | rfl | rfl <;> omega
  exact I1.fpOk le (I1.hok.fresh le)
theorem for_zipM {K : PySem.W.Frag} {a b : Addr} {xs ys : List V} {g : TG} {tb : TS} {D : Ends} {σ : L2.St} {H : Hp} (hl : xs.length = ys.length) (Pv : Nat → L2.St → Hp → Prop) (h0 : Pv 0 σ H) (hq : ∀ i σ H, Pv i σ H → SqT K H a xs ∧ SqL K H b ys)
    (hs : ∀ (i : Nat) (x y : V) (T : Addr) (σ : L2.St) (H : Hp), xs[i]? = some x → ys[i]? = some y → Pv i σ H → H T = none → g (.ref T) σ (upd H T (.tup [x, y])) fun σ2 H2 => tb { D with nx := Pv (i + 1), ct := Pv (i + 1), bk := D.nx } σ2 H2) (hd : ∀ σ H, Pv xs.length σ H → D.nx σ H) :
    ∃ W : Nat → Nat → L2.St → Hp → Prop, (∃ m, W 0 m σ H) ∧ ∀ i m σ H, W i m σ H →
      ((ItzM K a b).stop i H ∧ D.nx σ H) ∨ ((ItzM K a b).go i H ∧ ∃ N : L2.St → Hp → Prop, (∀ σ' H', N σ' H' → ∃ m', m' < m ∧ W (i + 1) m' σ' H') ∧ ∀ v H', (ItzM K a b).yld i H v H' → g v σ H' fun σ2 H2 => tb { D with nx := N, ct := N, bk := D.nx } σ2 H2) := by
  refine ⟨fun i m σ H => i + m = xs.length ∧ Pv i σ H, ⟨xs.length, Nat.zero_add _, h0⟩, fun i m σ H hw => ?_⟩
  obtain ⟨hm, p⟩ := hw
  obtain ⟨qx, qy⟩ := hq i σ H p
  cases m with
  | zero =>
    have e : i = xs.length := hm
    exact .inl ⟨⟨xs, ys, qx, qy, .inl (by omega)⟩, hd σ H (by rw [← e]; exact p)⟩
  | succ m =>
    refine .inr ⟨⟨xs, ys, _, _, qx, qy, List.getElem?_eq_getElem (by omega), List.getElem?_eq_getElem (by omega)⟩, Pv (i + 1), fun σ' H' p' => ⟨m, Nat.lt_succ_self m, by omega, p'⟩, ?_⟩
    rintro _ _ ⟨T, x, y, rfl, hT, rfl, f1, f2⟩
    exact hs i x y T σ H (f1 xs qx) (f2 ys qy) p hT
end OGX
set_option Elab.async false
set_option linter.all false
set_option maxRecDepth 100000
set_option maxHeartbeats 8000000
namespace OG
open PySem PySem.Spec PyProof.Rows L2
def Nears (H : Hp) (xs : List V) : Prop := ∀ x ∈ xs, NearV H x
theorem Nears.nil (H : Hp) : Nears H [] := fun _ h => by cases h
theorem Nears.cons {H : Hp} {x : V} {xs : List V} (h : NearV H x) (r : Nears H xs) : Nears H (x :: xs) := fun y hy => by
  rcases List.mem_cons.mp hy with e | e
  · rw [e]
    exact h
  · exact r y e
theorem Nears.app {H : Hp} {xs ys : List V} (a : Nears H xs) (b : Nears H ys) : Nears H (xs ++ ys) := fun x hx => (List.mem_append.mp hx).elim (a x) (b x)
theorem Nears.same {H H' : Hp} {xs : List V} (a : Nears H xs) (s : Same H H') : Nears H' xs := fun x hx => NearV.same s (a x hx)
def NearO (o : HO) : Prop := (∃ xs, o = .lst xs) ∨ (∃ xs, o = .tup xs) ∨ ∃ kvs, o = .dK kvs
theorem near_new {H : Hp} {a : Addr} {o : HO} {xs : List V} (n : H a = none) (N : Nears H xs) (ho : NearO o) : Nears (upd H a o) (.ref a :: xs) := by
  refine Nears.cons ?_ (N.same (same_new n))
  rcases ho with ⟨ys, rfl⟩ | ⟨ys, rfl⟩ | ⟨ys, rfl⟩
  · exact .inl ⟨ys, upd_same⟩
  · exact .inr (.inl ⟨ys, upd_same⟩)
  · exact .inr (.inr ⟨ys, upd_same⟩)
theorem NearV.dr {H H' : Hp} {p : Addr} {k : Nat} (d : Dr p k H H') : ∀ {v : V}, NearV H v → NearV H' v
  | .non, h => h
  | .bl _, h => h
  | .int _, h => h
  | .str _, h => h
  | .ref a, h => by
    by_cases e : a = p
    · rw [e]
      obtain ⟨x, y, c, h1, _⟩ := d.2
      exact .inl ⟨_, h1⟩
    · rcases h with ⟨xs, h⟩ | ⟨xs, h⟩ | ⟨xs, h⟩
      · exact .inl ⟨xs, d.1 _ _ e h⟩
      · exact .inr (.inl ⟨xs, d.1 _ _ e h⟩)
      · exact .inr (.inr ⟨xs, d.1 _ _ e h⟩)
theorem nsc {H : Hp} {z : Str} (h : z.length ≤ 900000) : NearV H (.str z) := h
theorem nnew {H : Hp} {a : Addr} {xs : List V} (o : HO) (ho : NearO o) (n : H a = none) (N : Nears H xs ∧ True) : Nears (upd H a o) (.ref a :: xs) ∧ Same H (upd H a o) := ⟨near_new n N.1 ho, same_new n⟩
theorem nearT (xs : List V) : NearO (.tup xs) := .inr (.inl ⟨xs, rfl⟩)
theorem nearL (xs : List V) : NearO (.lst xs) := .inl ⟨xs, rfl⟩
theorem nearD (xs : List (Key × V)) : NearO (.dK xs) := .inr (.inr ⟨xs, rfl⟩)
theorem near_put {H : Hp} {a : Addr} {xs : List V} {u o : HO} (n : H a = none) (N : Nears H xs) (ho : NearO o) : Nears (upd (upd H a u) a o) (.ref a :: xs) := by
  have e : upd (upd H a u) a o = upd H a o := by
    funext b
    by_cases hb : b = a
    · rw [hb, upd_same, upd_same]
    · rw [upd_ne hb, upd_ne hb, upd_ne hb]
  rw [e]
  exact near_new n N ho
theorem same_put {H : Hp} {a : Addr} {u o : HO} (n : H a = none) : Same H (upd (upd H a u) a o) := fun b x e => by
  rw [upd_ne (ne_of_none e n), upd_ne (ne_of_none e n)]
  exact e
end OG
set_option Elab.async false
set_option linter.all false
set_option maxRecDepth 100000
set_option maxHeartbeats 8000000
namespace OG
open PySem PySem.Spec PyProof.Rows L2
theorem dok_small {z : Str} (hl : z.length ≤ 19) (hc : ∀ c ∈ z.cps.toList, c < 16 ^ 8) : DOk 0 200 (.str z) := by
  refine ⟨by simp only [PyData.showable], by simp only [PyData.hasDict], by simp only [PyData.depth]; exact Nat.le_refl _, ?_⟩
  rw [PyData.shown_str]
  have h := StrLaws.reprText_len z hc
  omega
theorem dok_non : DOk 0 200 .none := by
  refine ⟨by simp only [PyData.showable], by simp only [PyData.hasDict], by simp only [PyData.depth]; exact Nat.le_refl _, ?_⟩
  rw [PyData.shown_none]
  decide +kernel
/-- H without p -/
def Hm (p : Addr) (H : Hp) : Hp := fun b => if b = p then none else H b
theorem Hm.ne {p b : Addr} {H : Hp} (n : b ≠ p) : Hm p H b = H b := if_neg n
theorem Hm.kp {p : Addr} {H H' : Hp} (k : Kp p H H') : Same (Hm p H) (Hm p H') := fun b o e => by
  by_cases n : b = p
  · rw [n] at e
    unfold Hm at e
    rw [if_pos rfl] at e
    cases e
  · rw [Hm.ne n] at e ⊢
    exact k b o n e
theorem Hm.same {p : Addr} {H : Hp} : Same (Hm p H) H := fun b o e => by
  by_cases n : b = p
  · rw [n] at e
    unfold Hm at e
    rw [if_pos rfl] at e
    cases e
  · rwa [Hm.ne n] at e
mutual
theorem Dp.sm {K : PySem.W.Frag} {H H' : Hp} (s : Same H H') : ∀ {v : V} {d : PyData}, Dp K H v d → Dp K H' v d
  | _, _, .non => .non
  | _, _, .bl b => .bl b
  | _, _, .int i => .int i
  | _, _, .str z => .str z
  | _, _, .lst h a => .lst (h.ext s) (DpAll.sm s a)
  | _, _, .tup h a => .tup (h.ext s) (DpAll.sm s a)
theorem DpAll.sm {K : PySem.W.Frag} {H H' : Hp} (s : Same H H') : ∀ {vs : List V} {ds : List PyData}, DpAll K H vs ds → DpAll K H' vs ds
  | _, _, .nil => .nil
  | _, _, .cons h a => .cons (Dp.sm s h) (DpAll.sm s a)
end
/-- an item of a value: None, a truth value, an int, a text, or a list or tuple of few of these -/
structure Itm (K : PySem.W.Frag) (p : Addr) (H : Hp) (v : V) : Prop where
  near : NearV H v
  dat : ∃ d, Dp K (Hm p H) v d ∧ DOk 2 7000 d
/-- a leaf -/
structure Lf (v : V) (d : PyData) : Prop where
  dp : ∀ {K : PySem.W.Frag} {H : Hp}, Dp K H v d
  ok : DOk 0 200 d
  nr : ∀ {H : Hp}, NearV H v
theorem lf_non : Lf .non .none := ⟨.non, dok_non, trivial⟩
theorem lf_bl (b : Bool) : Lf (.bl b) (.bool b) := ⟨.bl b, (dok_bool b).mono (Nat.le_refl _) (by decide), trivial⟩
theorem lf_int {i : Int} (h1 : -1000000000000 ≤ i) (h2 : i ≤ 1000000000000) : Lf (.int i) (.int i) := ⟨.int i, (dok_int h1 h2).mono (Nat.le_refl _) (by decide), trivial⟩
theorem lf_str {z : Str} (hl : z.length ≤ 19) (hc : ∀ c ∈ z.cps.toList, c < 16 ^ 8) : Lf (.str z) (.str z) := ⟨.str z, dok_small hl hc, fun {H} => Nat.le_trans hl (by decide)⟩
theorem lf_nm {z : Str} (h : IsNm z) : Lf (.str z) (.str z) := lf_str (Nat.le_trans h.2.1 (by decide)) fun c hc => by
  have h1 := h.2.2 c hc
  have h2 : ∀ c ∈ abc, c < 16 ^ 8 := by decide +kernel
  exact h2 c h1
theorem Lf.itm {K : PySem.W.Frag} {p : Addr} {H : Hp} {v : V} {d : PyData} (h : Lf v d) : Itm K p H v := ⟨h.nr, d, h.dp, h.ok.mono (by decide) (by decide)⟩
theorem lf_all {K : PySem.W.Frag} {H : Hp} : ∀ {vs : List V} {ds : List PyData}, Paired Lf vs ds → DpAll K H vs ds
  | _, _, .nil => .nil
  | _, _, .cons h t => .cons h.dp (lf_all t)
theorem lf_dok : ∀ {vs : List V} {ds : List PyData}, Paired Lf vs ds → ∀ d ∈ ds, DOk 0 200 d
  | _, _, .nil, d, h => by cases h
  | _, _, .cons h t, d, hd => by
    rcases List.mem_cons.mp hd with rfl | hd
    · exact h.ok
    · exact lf_dok t d hd
theorem pl {α β : Type} {R : α → β → Prop} : ∀ {xs : List α} {ys : List β}, Paired R xs ys → xs.length = ys.length
  | _, _, .nil => rfl
  | _, _, .cons _ t => congrArg (· + 1) (pl t)
/-- a tuple or list of leaves is an item -/
theorem itm_tup {K : PySem.W.Frag} {p a : Addr} {H : Hp} {vs : List V} {ds : List PyData} (ha : H a = some (.tup vs)) (n : a ≠ p) (h : Paired Lf vs ds) (hl : vs.length ≤ 20) : Itm K p H (.ref a) :=
  ⟨.inr (.inl ⟨_, ha⟩), _, .tup (SqT.of (by rw [Hm.ne n]; exact ha)) (lf_all h), (dok_tuple (n := 20) (lf_dok h) (by rw [← pl h]; exact hl)).mono (by decide) (by decide)⟩
theorem itm_lst {K : PySem.W.Frag} {p a : Addr} {H : Hp} {vs : List V} {ds : List PyData} (ha : H a = some (.lst vs)) (n : a ≠ p) (h : Paired Lf vs ds) (hl : vs.length ≤ 20) : Itm K p H (.ref a) :=
  ⟨.inl ⟨_, ha⟩, _, .lst (SqL.of (by rw [Hm.ne n]; exact ha)) (lf_all h), (dok_list (n := 20) (lf_dok h) (by rw [← pl h]; exact hl)).mono (by decide) (by decide)⟩
theorem Itm.dr {K : PySem.W.Frag} {p : Addr} {k : Nat} {H H' : Hp} {v : V} (h : Itm K p H v) (d : Dr p k H H') : Itm K p H' v := by
  obtain ⟨e, h1, h2⟩ := h.dat
  exact ⟨NearV.dr d h.near, e, Dp.sm (Hm.kp d.1) h1, h2⟩
theorem Itm.same {K : PySem.W.Frag} {p : Addr} {H H' : Hp} {v : V} (h : Itm K p H v) (s : Same H H') : Itm K p H' v := by
  obtain ⟨e, h1, h2⟩ := h.dat
  exact ⟨NearV.same s h.near, e, Dp.sm (Hm.kp (Same.kp s)) h1, h2⟩
/-- a value -/
structure Val (K : PySem.W.Frag) (p : Addr) (H : Hp) (v : V) : Prop where
  near : NearV H v
  dat : ∃ d, OGX.ShD K (Hm p H) v d ∧ d.showable = true ∧ d.depth ≤ 60 ∧ d.shown.length ≤ sizeLine
  its : ∀ a xs, v = .ref a → H a = some (.tup xs) → (∀ x ∈ xs, NearV H x) ∧ xs.length ≤ 20
theorem ShD.sm {K : PySem.W.Frag} {H H' : Hp} {v : V} {d : PyData} (s : Same H H') (h : OGX.ShD K H v d) : OGX.ShD K H' v d := by
  rcases h with ⟨h, e⟩ | ⟨a, rfl, ⟨h, e⟩ | ⟨k, i, h, e⟩⟩
  · exact .inl ⟨Dp.sm s h, e⟩
  · exact .inr ⟨a, rfl, .inl ⟨s _ _ h, e⟩⟩
  · exact .inr ⟨a, rfl, .inr ⟨k, i, s _ _ h, e⟩⟩
theorem Val.dr {K : PySem.W.Frag} {p : Addr} {k : Nat} {H H' : Hp} {v : V} (h : Val K p H v) (hp : ∃ xs, H p = some (.lst xs)) (d : Dr p k H H') : Val K p H' v := by
  obtain ⟨e, h1, h2⟩ := h.dat
  refine ⟨NearV.dr d h.near, ⟨e, ShD.sm (Hm.kp d.1) h1, h2⟩, fun a xs ev ha => ?_⟩
  subst ev
  have nap : a ≠ p := fun z => by
    obtain ⟨x, y, c, h1, _⟩ := d.2
    rw [z, h1] at ha
    cases ha
  have old : H a = some (.tup xs) := by
    rcases h.near with ⟨ys, e⟩ | ⟨ys, e⟩ | ⟨ys, e⟩
    · rw [d.1 _ _ nap e] at ha
      cases ha
    · rw [d.1 _ _ nap e] at ha
      cases ha
      exact e
    · rw [d.1 _ _ nap e] at ha
      cases ha
  obtain ⟨i1, i2⟩ := h.its a xs rfl old
  exact ⟨fun x hx => NearV.dr d (i1 x hx), i2⟩
theorem Val.same {K : PySem.W.Frag} {p : Addr} {H H' : Hp} {v : V} (h : Val K p H v) (s : Same H H') : Val K p H' v := by
  obtain ⟨e, h1, h2⟩ := h.dat
  refine ⟨NearV.same s h.near, ⟨e, ShD.sm (Hm.kp (Same.kp s)) h1, h2⟩, fun a xs ev ha => ?_⟩
  subst ev
  have old : H a = some (.tup xs) := by
    rcases h.near with ⟨ys, e⟩ | ⟨ys, e⟩ | ⟨ys, e⟩
    · rw [s _ _ e] at ha
      cases ha
    · rw [s _ _ e] at ha
      cases ha
      exact e
    · rw [s _ _ e] at ha
      cases ha
  obtain ⟨i1, i2⟩ := h.its a xs rfl old
  exact ⟨fun x hx => NearV.same s (i1 x hx), i2⟩
/-- items as data -/
theorem its_all {K : PySem.W.Frag} {p : Addr} {H : Hp} : ∀ {xs : List V}, (∀ x ∈ xs, Itm K p H x) → ∃ ds, DpAll K (Hm p H) xs ds ∧ (∀ d ∈ ds, DOk 2 7000 d) ∧ ds.length = xs.length
  | [], _ => ⟨[], .nil, (fun d h => by cases h), rfl⟩
  | x :: xs, h => by
    obtain ⟨d, h1, h2⟩ := (h x List.mem_cons_self).dat
    obtain ⟨ds, h3, h4, h5⟩ := its_all fun y hy => h y (List.mem_cons_of_mem _ hy)
    refine ⟨d :: ds, .cons h1 h3, fun e he => ?_, congrArg (· + 1) h5⟩
    rcases List.mem_cons.mp he with rfl | he
    · exact h2
    · exact h4 e he
theorem val_tup {K : PySem.W.Frag} {p a : Addr} {H : Hp} {xs : List V} (ha : H a = some (.tup xs)) (n : a ≠ p) (h : ∀ x ∈ xs, Itm K p H x) (hl : xs.length ≤ 20) : Val K p H (.ref a) := by
  obtain ⟨ds, h1, h2, h3⟩ := its_all h
  have dk := dok_tuple (n := 20) h2 (by omega)
  refine ⟨.inr (.inl ⟨_, ha⟩), ⟨_, .inl ⟨.tup (SqT.of (by rw [Hm.ne n]; exact ha)) h1, dk.nd⟩, dk.sh, Nat.le_trans dk.dp (by decide), Nat.le_trans dk.ln (by decide)⟩, fun b ys e hb => ?_⟩
  cases e
  rw [ha] at hb
  cases hb
  exact ⟨fun x hx => (h x hx).near, hl⟩
theorem val_lst {K : PySem.W.Frag} {p a : Addr} {H : Hp} {xs : List V} (ha : H a = some (.lst xs)) (n : a ≠ p) (h : ∀ x ∈ xs, Itm K p H x) (hl : xs.length ≤ 20) : Val K p H (.ref a) := by
  obtain ⟨ds, h1, h2, h3⟩ := its_all h
  have dk := dok_list (n := 20) h2 (by omega)
  refine ⟨.inl ⟨_, ha⟩, ⟨_, .inl ⟨.lst (SqL.of (by rw [Hm.ne n]; exact ha)) h1, dk.nd⟩, dk.sh, Nat.le_trans dk.dp (by decide), Nat.le_trans dk.ln (by decide)⟩, fun b ys e hb => ?_⟩
  cases e
  rw [ha] at hb
  cases hb
theorem Lf.val {K : PySem.W.Frag} {p : Addr} {H : Hp} {v : V} {d : PyData} (h : Lf v d) (hn : ∀ a, v ≠ .ref a) : Val K p H v := ⟨h.nr, ⟨d, .inl ⟨h.dp, h.ok.nd⟩, h.ok.sh, Nat.le_trans h.ok.dp (by decide), Nat.le_trans h.ok.ln (by decide)⟩, fun a _ e => absurd e (hn a)⟩
theorem val_dic {K : PySem.W.Frag} {p a : Addr} {H : Hp} {kvs : List (Key × V)} (ha : H a = some (.dK kvs)) (n : a ≠ p) (h : kvs = [] ∨ kvs = [(.inr "a", .int 1)]) : Val K p H (.ref a) := by
  have no : ∀ b xs, V.ref a = .ref b → H b = some (.tup xs) → (∀ x ∈ xs, NearV H x) ∧ xs.length ≤ 20 := fun b xs e hb => by
    cases e
    rw [ha] at hb
    cases hb
  have hm : Hm p H a = some (.dK kvs) := by rw [Hm.ne n]; exact ha
  rcases h with rfl | rfl
  · refine ⟨.inr (.inr ⟨_, ha⟩), ⟨.dict [], .inr ⟨a, rfl, .inl ⟨hm, rfl⟩⟩, ?_, ?_, ?_⟩, no⟩
    · simp [PyData.showable, PyData.showableKv]
    · decide +kernel
    · exact Nat.le_trans (show (PyData.dict []).shown.length ≤ 1000 by decide +kernel) (by decide)
  · refine ⟨.inr (.inr ⟨_, ha⟩), ⟨.dict [(.str "a", .int 1)], .inr ⟨a, rfl, .inr ⟨"a", 1, hm, rfl⟩⟩, ?_, ?_, ?_⟩, no⟩
    · decide +kernel
    · decide +kernel
    · exact Nat.le_trans (show (PyData.dict [(.str "a", .int 1)]).shown.length ≤ 1000 by decide +kernel) (by decide)
end OG
set_option Elab.async false
set_option linter.all false
set_option maxRecDepth 100000
set_option maxHeartbeats 8000000
namespace OG
open PySem PySem.Spec PyProof.Rows L2
/-- values, beside the pot -/
def Vls (K : PySem.W.Frag) (p : Addr) (H : Hp) (xs : List V) : Prop := (∃ o, H p = some o) ∧ ∀ x ∈ xs, Val K p H x
theorem Vls.nil {K : PySem.W.Frag} {p : Addr} {H : Hp} (h : ∃ o, H p = some o) : Vls K p H [] := ⟨h, fun _ h => by cases h⟩
theorem Vls.cons {K : PySem.W.Frag} {p : Addr} {H : Hp} {x : V} {xs : List V} (h : Val K p H x) (r : Vls K p H xs) : Vls K p H (x :: xs) := ⟨r.1, fun y hy => by
  rcases List.mem_cons.mp hy with rfl | e
  · exact h
  · exact r.2 y e⟩
theorem Vls.app {K : PySem.W.Frag} {p : Addr} {H : Hp} {xs ys : List V} (a : Vls K p H xs) (b : Vls K p H ys) : Vls K p H (xs ++ ys) := ⟨a.1, fun x hx => (List.mem_append.mp hx).elim (a.2 x) (b.2 x)⟩
theorem Vls.same {K : PySem.W.Frag} {p : Addr} {H H' : Hp} {xs : List V} (a : Vls K p H xs) (s : Same H H') : Vls K p H' xs := ⟨a.1.imp fun o h => s _ _ h, fun x hx => (a.2 x hx).same s⟩
theorem itm_lf {K : PySem.W.Frag} {p : Addr} {H : Hp} : ∀ {vs : List V} {ds : List PyData}, Paired Lf vs ds → ∀ x ∈ vs, Itm K p H x
  | _, _, .nil, x, h => by cases h
  | _, _, .cons h t, x, hx => by
    rcases List.mem_cons.mp hx with rfl | hx
    · exact h.itm
    · exact itm_lf t x hx
theorem Vls.fresh {K : PySem.W.Frag} {p a : Addr} {H : Hp} {xs : List V} (N : Vls K p H xs) (n : H a = none) : a ≠ p := fun z => by
  obtain ⟨o, h⟩ := N.1
  rw [z, h] at n
  cases n
theorem vnT {K : PySem.W.Frag} {p a : Addr} {H : Hp} {xs vs : List V} {ds : List PyData} (n : H a = none) (N : Vls K p H xs) (h : Paired Lf vs ds) (hl : vs.length ≤ 20) : Vls K p (upd H a (.tup vs)) (.ref a :: xs) := .cons (val_tup upd_same (N.fresh n) (itm_lf h) hl) (N.same (same_new n))
theorem vnL {K : PySem.W.Frag} {p a : Addr} {H : Hp} {xs vs : List V} {ds : List PyData} (n : H a = none) (N : Vls K p H xs) (h : Paired Lf vs ds) (hl : vs.length ≤ 20) : Vls K p (upd H a (.lst vs)) (.ref a :: xs) := .cons (val_lst upd_same (N.fresh n) (itm_lf h) hl) (N.same (same_new n))
theorem vnD {K : PySem.W.Frag} {p a : Addr} {H : Hp} {xs : List V} {kvs : List (Key × V)} (n : H a = none) (N : Vls K p H xs) (h : kvs = [] ∨ kvs = [(.inr "a", .int 1)]) : Vls K p (upd H a (.dK kvs)) (.ref a :: xs) := .cons (val_dic upd_same (N.fresh n) h) (N.same (same_new n))
theorem lfi (i : Int) (h : (decide (-1000000000000 ≤ i) && decide (i ≤ 1000000000000)) = true) : Lf (.int i) (.int i) := by
  rw [Bool.and_eq_true, decide_eq_true_eq, decide_eq_true_eq] at h
  exact lf_int h.1 h.2
theorem lfs (z : Str) (h : (decide (z.length ≤ 19) && z.cps.toList.all fun c => decide (c < 16 ^ 8)) = true) : Lf (.str z) (.str z) := by
  rw [Bool.and_eq_true, decide_eq_true_eq, List.all_eq_true] at h
  exact lf_str h.1 fun c hc => of_decide_eq_true (h.2 c hc)
theorem nref {i : Int} : ∀ a, V.int i ≠ .ref a := fun a h => by cases h
theorem nrefs {z : Str} : ∀ a, V.str z ≠ .ref a := fun a h => by cases h
theorem Lf.vi {K : PySem.W.Frag} {p : Addr} {H : Hp} {i : Int} {d : PyData} (h : Lf (.int i) d) : Val K p H (.int i) := h.val nref
theorem Lf.vs {K : PySem.W.Frag} {p : Addr} {H : Hp} {z : Str} {d : PyData} (h : Lf (.str z) d) : Val K p H (.str z) := h.val nrefs
section
variable {P : Program} {w : World} {K : PySem.W.Frag} {mg : Str → Option Value} {base : Heap}
def spOddV (K : PySem.W.Frag) : Sp := fun vs H Q _ => ∃ (p : Addr) (k : Nat), vs = [.ref p] ∧ Pot (k + 1) H p ∧ ∀ (v : V) (H' : Hp), Dr p k H H' → Val K p H' v → Q v H'
theorem ok_l_odd (T : Txt K mg) : FnOk P w K mg base CX0 3 T.f_l_odd T.fd_l_odd ["pot"] (spOddV K) := by
  refine T.F_l_odd.ok sc_l_odd (fun vs H Q E h => ?_) (fun cdv A outer s H vs Q E hr h => ?_)
  · obtain ⟨p, k, rfl, _⟩ := h
    rfl
  · obtain ⟨p, k, rfl, hP, q⟩ := h
    refine ⟨_, (pss_cons (ps_set (i := 1) sc_l_odd.nd rfl (Or.inl rfl) (pe_lst (pa_cons pe_non (pa_cons pe_bl (pa_cons pe_bl (pa_cons pe_int (pa_cons pe_int (pa_cons (pe_un un_neg pe_int) (pa_cons pe_int (pa_cons (pe_op op_powW pe_int pe_int) (pa_cons pe_str (pa_cons pe_str (pa_cons pe_str (pa_cons pe_str (pa_cons pe_str (pa_cons pe_str (pa_cons (pe_tup pa_nil) (pa_cons (pe_lst pa_nil) (pa_cons pe_dnewK (pa_cons (pe_tup (pa_cons pe_int pa_nil)) pa_nil))))))))))))))))))))
  (pss_cons (ps_set (i := 1) sc_l_odd.nd rfl (Or.inl rfl) (pe_op op_cat (pv 1) (pe_lst (pa_cons (pe_tup (pa_cons pe_int (pa_cons pe_int pa_nil))) (pa_cons (pe_tup (pa_cons pe_int (pa_cons pe_int pa_nil))) (pa_cons (pe_tup (pa_cons pe_int (pa_cons pe_int pa_nil))) (pa_cons (pe_tup (pa_cons (pe_tup pa_nil) pa_nil)) (pa_cons (pe_lst (pa_cons pe_int pa_nil)) (pa_cons (pe_tup (pa_cons pe_non pa_nil)) (pa_cons (pe_disp (pps_cons pe_str pe_int pps_nil) (by rfl) (by rfl) (fun z => by cases z) (by decide)) (pa_cons (pe_tup (pa_cons pe_bl pa_nil)) (pa_cons (pe_tup (pa_cons pe_str pa_nil)) (pa_cons (pe_tup (pa_cons pe_str (pa_cons pe_str pa_nil))) (pa_cons pe_str (pa_cons pe_str pa_nil)))))))))))))))
  (pss_one (ps_ret (pe_call (ok_l_of T) (hr.mono (by decide)) (by rfl) T.g_l_of T.F_l_of.kp T.b_l_of .nil pass0 (pa_cons (pv 0) (pa_cons (pv 1) pa_nil))))))), ?_⟩
    refine ⟨_, rfl, _, _, rfl, rfl, pow_c (by decide), ?_⟩
    refine ⟨Nat.zero_le _, fun a1 n1 => ⟨Nat.zero_le _, fun a2 n2 => fun a3 n3 => ⟨Nat.le_trans (show 1 ≤ 1000 by decide) (by decide), fun a4 n4 => ⟨Nat.le_trans (show 18 ≤ 1000 by decide) (by decide), fun l1 hl1 => ?_⟩⟩⟩⟩
    have N1 := vnT (K := K) (p := p) n1 (Vls.nil ⟨_, hP.lst.choose_spec⟩) .nil (by decide)
    have N2 := vnL n2 N1 .nil (by decide)
    have N3 := vnD n3 N2 (.inl rfl)
    have N4 := vnT n4 N3 (.cons (lfi 0 (by decide +kernel)) .nil) (by decide)
    have s4 := (same_new (o := .tup []) n1).trans ((same_new (o := .lst []) n2).trans ((same_new (o := .dK []) n3).trans (same_new (o := .tup [.int 0]) n4)))
    obtain ⟨xs1, hxs1⟩ : ∃ xs : List V, xs = [.non, .bl true, .bl false, .int 0, .int 1, .int (-1), .int 7, .int (10 ^ (8 : Int).toNat), .str "", .str "a", .str "x", .str "script", .str "script\nx = one", .str "same", .ref a1, .ref a2, .ref a3, .ref a4] := ⟨_, rfl⟩
    have h1 : (upd (upd (upd (upd (upd H a1 (.tup [])) a2 (.lst [])) a3 (.dK [])) a4 (.tup [.int 0])) l1 (.lst xs1)) l1 = some (.lst xs1) := upd_same
    rw [← hxs1]
    have r4 : ∀ {x}, x ∈ [V.ref a4, .ref a3, .ref a2, .ref a1] → Val K p _ x := fun {x} hx => N4.2 x hx
    have A1 : Vls K p (upd (upd (upd (upd H a1 (.tup [])) a2 (.lst [])) a3 (.dK [])) a4 (.tup [.int 0])) xs1 := by
      rw [hxs1]
      refine .cons (lf_non.val fun a h => by cases h) (.cons ((lf_bl true).val fun a h => by cases h) (.cons ((lf_bl false).val fun a h => by cases h) (.cons (lfi _ (by decide +kernel)).vi (.cons (lfi _ (by decide +kernel)).vi (.cons (lfi _ (by decide +kernel)).vi (.cons (lfi _ (by decide +kernel)).vi (.cons (lfi _ (by decide +kernel)).vi (.cons (lfs _ (by decide +kernel)).vs (.cons (lfs _ (by decide +kernel)).vs (.cons (lfs _ (by decide +kernel)).vs (.cons (lfs _ (by decide +kernel)).vs (.cons (lfs _ (by decide +kernel)).vs (.cons (lfs _ (by decide +kernel)).vs ?_)))))))))))))
      exact .cons (r4 (by simp)) (.cons (r4 (by simp)) (.cons (r4 (by simp)) (.cons (r4 (by simp)) (.nil N4.1))))
    have lx1 : xs1.length = 18 := by
      rw [hxs1]
      rfl
    have s5 := same_new (o := .lst xs1) hl1
    have A1 := A1.same s5
    have sA := s4.trans s5
    generalize upd (upd (upd (upd (upd H a1 (.tup [])) a2 (.lst [])) a3 (.dK [])) a4 (.tup [.int 0])) l1 (.lst xs1) = H1 at *
    refine ⟨.ref l1, rfl, ⟨Nat.le_trans (show 2 ≤ 1000 by decide) (by decide), fun b1 m1 => ⟨Nat.le_trans (show 2 ≤ 1000 by decide) (by decide), fun b2 m2 => ⟨Nat.le_trans (show 2 ≤ 1000 by decide) (by decide), fun b3 m3 => ⟨Nat.zero_le _, fun b4 m4 => ⟨Nat.le_trans (show 1 ≤ 1000 by decide) (by decide), fun b5 m5 => ⟨Nat.le_trans (show 1 ≤ 1000 by decide) (by decide), fun b6 m6 => ⟨Nat.le_trans (show 1 ≤ 1000 by decide) (by decide), fun b7 m7 => ?_⟩⟩⟩⟩⟩⟩⟩⟩
    have M1 := vnT (K := K) (p := p) m1 (Vls.nil A1.1) (.cons (lfi 0 (by decide +kernel)) (.cons (lfi 1 (by decide +kernel)) .nil)) (by decide)
    have M2 := vnT m2 M1 (.cons (lfi 1 (by decide +kernel)) (.cons (lfi 0 (by decide +kernel)) .nil)) (by decide)
    have M3 := vnT m3 M2 (.cons (lfi 1 (by decide +kernel)) (.cons (lfi 1 (by decide +kernel)) .nil)) (by decide)
    have M4 := vnT m4 M3 .nil (by decide)
    have M5 := Vls.cons (K := K) (p := p) (x := .ref b5) (H := upd (upd (upd (upd (upd H1 b1 (.tup [.int 0, .int 1])) b2 (.tup [.int 1, .int 0])) b3 (.tup [.int 1, .int 1])) b4 (.tup [])) b5 (.tup [.ref b4])) (val_tup upd_same (M4.fresh m5) (fun x hx => by rw [List.mem_singleton.mp hx]; exact itm_tup (same_new m5 _ _ upd_same) (M3.fresh m4) .nil (by decide)) (by show 1 ≤ 20; decide)) (M4.same (same_new m5))
    have M6 := vnL m6 M5 (.cons (lfi 0 (by decide +kernel)) .nil) (by decide)
    have M7 := vnT m7 M6 (.cons lf_non .nil) (by decide)
    have t7 := (same_new (o := .tup [.int 0, .int 1]) m1).trans ((same_new (o := .tup [.int 1, .int 0]) m2).trans ((same_new (o := .tup [.int 1, .int 1]) m3).trans ((same_new (o := .tup []) m4).trans ((same_new (o := .tup [.ref b4]) m5).trans ((same_new (o := .lst [.int 0]) m6).trans (same_new (o := .tup [.non]) m7))))))
    refine fun b8 m8 => ⟨upd_same, [(.inr "a", .int 1)], rfl, by decide, ?_⟩
    have M8 : Vls K p _ _ := Vls.cons (K := K) (p := p) (x := .ref b8) (val_dic (kvs := mergeK [] [(.inr "a", .int 1)]) upd_same (M7.fresh m8) (.inr rfl)) (M7.same (same_put (u := .dK []) (o := .dK (mergeK [] [(.inr "a", .int 1)])) m8))
    have t8 := t7.trans (same_put (u := .dK []) (o := .dK (mergeK [] [(.inr "a", .int 1)])) m8)
    refine ⟨Nat.le_trans (show 1 ≤ 1000 by decide) (by decide), fun b9 m9 => ⟨Nat.le_trans (show 1 ≤ 1000 by decide) (by decide), fun b10 m10 => ⟨Nat.le_trans (show 2 ≤ 1000 by decide) (by decide), fun b11 m11 => ⟨Nat.le_trans (show 12 ≤ 1000 by decide) (by decide), fun l2 hl2 => ?_⟩⟩⟩⟩
    have M9 := vnT m9 M8 (.cons (lf_bl true) .nil) (by decide)
    have M10 := vnT m10 M9 (.cons (lfs "a" (by decide +kernel)) .nil) (by decide)
    have M11 := vnT m11 M10 (.cons (lfs "a" (by decide +kernel)) (.cons (lfs "b" (by decide +kernel)) .nil)) (by decide)
    have t11 := t8.trans ((same_new (o := .tup [.bl true]) m9).trans ((same_new (o := .tup [.str "a"]) m10).trans (same_new (o := .tup [.str "a", .str "b"]) m11)))
    obtain ⟨xs2, hxs2⟩ : ∃ xs : List V, xs = [.ref b1, .ref b2, .ref b3, .ref b5, .ref b6, .ref b7, .ref b8, .ref b9, .ref b10, .ref b11, .str "parts", .str "rows"] := ⟨_, rfl⟩
    rw [← hxs2]
    have A2' := Vls.cons (M11.2 (.ref b1) (by simp)) (Vls.cons (M11.2 (.ref b2) (by simp)) (Vls.cons (M11.2 (.ref b3) (by simp)) (Vls.cons (M11.2 (.ref b5) (by simp)) (Vls.cons (M11.2 (.ref b6) (by simp)) (Vls.cons (M11.2 (.ref b7) (by simp)) (Vls.cons (M11.2 (.ref b8) (by simp)) (Vls.cons (M11.2 (.ref b9) (by simp)) (Vls.cons (M11.2 (.ref b10) (by simp)) (Vls.cons (M11.2 (.ref b11) (by simp)) (Vls.cons (lfs "parts" (by decide +kernel)).vs (Vls.cons (lfs "rows" (by decide +kernel)).vs (Vls.nil M11.1))))))))))))
    rw [← hxs2] at A2'
    have lx2 : xs2.length = 12 := by
      rw [hxs2]
      rfl
    have s12 := same_new (o := .lst xs2) hl2
    refine ⟨l1, l2, xs1, xs2, rfl, rfl, s12 _ _ (t11 _ _ h1), upd_same, by rw [lx1, lx2]; exact Nat.le_trans (show 30 ≤ 1000 by decide) (by decide), fun l3 hl3 => ?_⟩
    have s13 := same_new (o := .lst (xs1 ++ xs2)) hl3
    have sF := ((sA.trans t11).trans s12).trans s13
    have B := (((A1.same t11).app A2').same s12).same s13
    refine ⟨.ref p, rfl, .ref l3, rfl, p, l3, xs1 ++ xs2, k, rfl, hP.same sF, SqL.of upd_same, (hP.same ((sA.trans t11).trans s12)).ne hl3, by rw [List.length_append, lx1, lx2]; decide, by rw [List.length_append, lx1, lx2]; decide, fun i x H' hx d => ?_⟩
    exact q x H' ⟨(Same.kp sF).trans d.1, d.2⟩ ((B.2 x (List.mem_of_getElem? hx)).dr (hP.same sF).lst d)
end
end OG
set_option Elab.async false
set_option linter.all false
set_option maxRecDepth 100000
set_option maxHeartbeats 8000000
namespace OG
open PySem PySem.Spec PyProof.Rows L2
/-- a short text -/
def Sm (n : Nat) (z : Str) : Prop := z.length ≤ n ∧ ∀ c ∈ z.cps.toList, c < 16 ^ 8
theorem Sm.lf {n : Nat} {z : Str} (h : Sm n z) (hn : n ≤ 19) : Lf (.str z) (.str z) := lf_str (Nat.le_trans h.1 hn) h.2
theorem len_tl (z : Str) : z.length = z.cps.toList.length := (Array.length_toList).symm
theorem sm_of {n : Nat} {z : Str} {l : List Nat} (e : z.cps.toList = l) (h1 : l.length ≤ n) (h2 : ∀ c ∈ l, c < 16 ^ 8) : Sm n z := by
  refine ⟨?_, ?_⟩
  · rw [len_tl, e]
    exact h1
  · rw [e]
    exact h2
theorem sm_app {n m : Nat} {y z : Str} (h : Sm n y) (k : Sm m z) : Sm (n + m) (y ++ z) := by
  have e : (y ++ z).cps.toList = y.cps.toList ++ z.cps.toList := Array.toList_append
  refine sm_of e ?_ fun c hc => (List.mem_append.mp hc).elim (h.2 c) (k.2 c)
  rw [List.length_append, ← len_tl, ← len_tl]
  exact Nat.add_le_add h.1 k.1
theorem sm_cut {n : Nat} {z : Str} (h : Sm n z) (lo hi : Option Int) : Sm n (cutS z lo hi) := by
  refine sm_of (l := ((z.cps.toList.drop _).take _)) rfl ?_ fun c hc => h.2 c (List.mem_of_mem_drop (List.mem_of_mem_take hc))
  rw [List.length_take, List.length_drop, ← len_tl]
  have := h.1
  omega
theorem Dr.sm {p : Addr} {k : Nat} {H H1 H2 : Hp} (d : Dr p k H H1) (s : Same H1 H2) : Dr p k H H2 := d.sm9 s
def abc9 : List Nat := abc ++ [48, 49, 50, 51, 52, 53, 54, 55, 56, 57]
/-- letters and figures, few -/
def LNm (z : Str) : Prop := 1 ≤ z.length ∧ z.length ≤ 8 ∧ ∀ c ∈ z.cps.toList, c ∈ abc9
theorem NmAt.lnm {i : Nat} {z : Str} (h : NmAt i z) : LNm z := ⟨h.len.1, h.len.2, fun c hc => by
  have := h.nice c hc
  unfold niceC at this
  simp only [Bool.or_eq_true, Bool.and_eq_true, decide_eq_true_eq] at this
  unfold abc9 abc
  simp only [List.mem_append, List.mem_cons, List.mem_nil_iff, or_false]
  omega⟩
theorem lf_lnm {z : Str} (h : LNm z) : Lf (.str z) (.str z) := lf_str (Nat.le_trans h.2.1 (by decide)) fun c hc => by
  have h1 := h.2.2 c hc
  have h2 : ∀ c ∈ abc9, c < 16 ^ 8 := by decide +kernel
  exact h2 c h1
theorem sm_nm {z : Str} (h : LNm z) : Sm 8 z := ⟨h.2.1, fun c hc => by
  have h1 := h.2.2 c hc
  have h2 : ∀ c ∈ abc9, c < 16 ^ 8 := by decide +kernel
  exact h2 c h1⟩
theorem sm_upper {z : Str} (h : LNm z) : Sm 8 (Txt.upper z) := by
  have key : ∀ c ∈ abc9, (Unicode.upperOf c).length ≤ 1 ∧ ∀ d ∈ Unicode.upperOf c, d < 16 ^ 8 := by decide +kernel
  have e : (Txt.upper z).cps.toList = z.cps.toList.flatMap Unicode.upperOf := by
    show (placed z fun _ c => Unicode.upperOf c).toList = _
    unfold placed
    have mi : ∀ l : List Nat, List.mapIdx (fun _ c => (Unicode.upperOf c).toArray) l = l.map fun c => (Unicode.upperOf c).toArray := fun l => List.ext_getElem (by simp) (by simp)
    simp [Array.toList_flatten, List.flatMap, mi, Function.comp_def]
  refine sm_of e ?_ fun c hc => ?_
  · have hl : z.cps.toList.length ≤ 8 := by
      rw [← len_tl]
      exact h.2.1
    have hm := h.2.2
    generalize z.cps.toList = l at hl hm
    have : ∀ l : List Nat, (∀ c ∈ l, c ∈ abc9) → (l.flatMap Unicode.upperOf).length ≤ 1 * l.length := by
      intro l hl
      induction l with
      | nil => exact Nat.le_refl _
      | cons c l ih =>
        rw [List.flatMap_cons, List.length_append, List.length_cons, Nat.mul_succ]
        have := (key c (hl c List.mem_cons_self)).1
        have := ih fun d hd => hl d (List.mem_cons_of_mem _ hd)
        omega
    have := this l hm
    omega
  · obtain ⟨d, hd, hc⟩ := List.mem_flatMap.mp hc
    exact (key d (h.2.2 d hd)).2 c hc
theorem Hm.new {F : Addr} {H : Hp} {o : HO} (n : H F = none) : Same H (Hm F (_root_.L2.upd H F o)) := fun b u e => by
  have nb : b ≠ F := ne_of_none e n
  rw [Hm.ne nb, upd_ne nb]
  exact e
theorem Hm.updE {F : Addr} {H : Hp} {o : HO} : Hm F (_root_.L2.upd H F o) = Hm F H := by
  funext b
  by_cases n : b = F
  · unfold Hm
    rw [if_pos n, if_pos n]
  · rw [Hm.ne n, Hm.ne n, upd_ne n]
theorem Dr.hm {p F : Addr} {k : Nat} {H H' : Hp} (d : Dr p k H H') (n : F ≠ p) : Dr p k (Hm F H) (Hm F H') := by
  refine ⟨fun b o nb e => ?_, ?_⟩
  · by_cases nf : b = F
    · rw [nf] at e
      unfold Hm at e
      rw [if_pos rfl] at e
      cases e
    · rw [Hm.ne nf] at e ⊢
      exact d.1 b o nb e
  · obtain ⟨a, b, c, h1, h2⟩ := d.2
    exact ⟨a, b, c, by rw [Hm.ne n.symm]; exact h1, h2⟩
theorem Hm.mono {F : Addr} {H H' : Hp} (s : Same H H') : Same (Hm F H) (Hm F H') := Hm.kp (Same.kp s)
section
variable {P : Program} {w : World} {K : PySem.W.Frag} {mg : Str → Option Value} {base : Heap}
def spBentS (K : PySem.W.Frag) : Sp := fun vs H Q _ => ∃ (p : Addr) (z : Str) (k : Nat), vs = [.ref p, .str z] ∧ LNm z ∧ Pot (k + 10) H p ∧ ∀ (v : V) (H' : Hp), Dr p k H H' → (∀ D, D ≠ p → (∃ o, H D = some o) → Itm K p (Hm D H') v) → Itm K p H' v → Q v H'
theorem ok_l_bent_s (T : Txt K mg) : FnOk P w K mg base CX0 4 T.f_l_bent T.fd_l_bent ["pot", "value"] (spBentS K) := by
  refine T.F_l_bent.ok sc_l_bent (fun vs H Q E h => ?_) (fun cdv A outer s H vs Q E hr h => ?_)
  · obtain ⟨p, z, k, rfl, _⟩ := h
    rfl
  · obtain ⟨p, z, k, rfl, hz, hP, q⟩ := h
    refine ⟨_, (pss_cons (ps_if (PW.pt (pw_and (pt_val (pe_callB call_isi (by rfl) T.n_isinstance (by decide +kernel) (pa_cons (pv 1) (pa_cons (pe_bltn (v := .ty "tuple") (by rfl) T.n_tuple (by decide +kernel) rfl) pa_nil)))) pw_dead)) pss_dead pss_nil)
  (pss_cons (ps_if (pt_val (pe_callB call_isi (by rfl) T.n_isinstance (by decide +kernel) (pa_cons (pv 1) (pa_cons (pe_bltn (v := .ty "tuple") (by rfl) T.n_tuple (by decide +kernel) rfl) pa_nil)))) pss_dead pss_nil)
  (pss_cons (ps_if (pt_val (pe_callB call_isi (by rfl) T.n_isinstance (by decide +kernel) (pa_cons (pv 1) (pa_cons (pe_bltn (v := .ty "bool") (by rfl) T.n_bool (by decide +kernel) rfl) pa_nil)))) pss_dead pss_nil)
  (pss_cons (ps_if (pt_val (pe_callB call_isi (by rfl) T.n_isinstance (by decide +kernel) (pa_cons (pv 1) (pa_cons (pe_bltn (v := .ty "int") (by rfl) T.n_int (by decide +kernel) rfl) pa_nil)))) pss_dead pss_nil)
  (pss_cons (ps_if (PW.pt (pw_and (pt_val (pe_callB call_isi (by rfl) T.n_isinstance (by decide +kernel) (pa_cons (pv 1) (pa_cons (pe_bltn (v := .ty "str") (by rfl) T.n_str (by decide +kernel) rfl) pa_nil)))) (pw_and1 (pt_cmpR op_in_sign pe_str (pv 1) rfl)))) pss_dead pss_nil)
  (pss_cons (ps_if (PW.pt (pw_and (pt_val (pe_callB call_isi (by rfl) T.n_isinstance (by decide +kernel) (pa_cons (pv 1) (pa_cons (pe_bltn (v := .ty "str") (by rfl) T.n_str (by decide +kernel) rfl) pa_nil)))) (pw_and1 (pt_cmpR op_ne (pv 1) pe_str (nomark _))))) (pss_cons (ps_set (i := 2) sc_l_bent.nd rfl (Or.inr rfl) (pe_call (ok_l_take T) (hr.mono (by decide)) (by rfl) T.g_l_take T.F_l_take.kp T.b_l_take .nil pass0 (pa_cons (pv 0) (pa_cons (pe_callB call_len_str (by rfl) T.n_len PySem.boot_len (pa_cons (pv 1) pa_nil)) pa_nil))))
  (pss_cons (ps_setLc (i := 3) (own := [("sign", 4)]) (g := gName 4) (by rfl) sc_l_bent.nd rfl rfl (sw_true rfl rfl rfl (by decide +kernel)) (pi_list (pe_call (ok_l_some T) (hr.mono (by decide)) (by rfl) T.g_l_some T.F_l_some.kp T.b_l_some .nil pass0 (pa_cons (pv 0) (pa_cons (pe_callTy (call_list_text rfl) (by rfl) T.n_list (by decide +kernel) (pa_cons pe_str pa_nil)) (pa_cons pe_int pa_nil))))) (blkOk_by (own := [("sign", 4)]) (by rfl)) (fun _ _ _ _ _ => (pg_name (i := 4) sc_l_bent.nd rfl (Or.inl rfl))) (fun _ _ _ _ _ => pts_nil) (fun _ _ _ _ _ => (pe_op op_add_str (pe_op op_add_str (pe_slice sl_str (pv 1) po_none (po_some (pv 2))) (pv 4)) (pe_slice sl_str (pv 1) (po_some (pe_op op_add (pv 2) pe_int)) po_none))))
  (pss_one (ps_ret (pe_call (ok_l_of T) (hr.mono (by decide)) (by rfl) T.g_l_of T.F_l_of.kp T.b_l_of .nil pass0 (pa_cons (pv 0) (pa_cons (pe_op op_cat (pv 3) (pe_lst (pa_cons (pe_op op_add_str (pv 1) pe_str) (pa_cons (pe_slice sl_str (pv 1) (po_some pe_int) po_none) (pa_cons (pe_upper (pv 1)) (pa_cons (pe_lst (pa_cons (pv 1) pa_nil)) (pa_cons pe_non (pa_cons (pe_op op_add_str pe_str (pv 1)) (pa_cons (pe_tup (pa_cons (pv 1) pa_nil)) pa_nil))))))))) pa_nil))))))) pss_nil)
  pss_dead)))))), ?_⟩
    refine ⟨.str z, rfl, _, _, _, _, false, rfl, .ty _, .base (.str z), kit_ty (by decide +kernel), ?_⟩
    refine ⟨_, rfl, ?_⟩
    refine iteF ?_
    refine iteF ?_
    dsimp only [tNext, tSeq]
    refine ⟨.str z, rfl, _, _, _, _, false, rfl, .ty _, .base (.str z), kit_ty (by decide +kernel), ?_⟩
    refine ⟨_, rfl, ?_⟩
    refine iteF ?_
    dsimp only [tNext, tSeq]
    refine ⟨.str z, rfl, _, _, _, _, false, rfl, .ty _, .base (.str z), kit_ty (by decide +kernel), ?_⟩
    refine ⟨_, rfl, ?_⟩
    refine iteF ?_
    dsimp only [tNext, tSeq]
    refine ⟨.str z, rfl, _, _, _, _, false, rfl, .ty _, .base (.str z), kit_ty (by decide +kernel), ?_⟩
    refine ⟨_, rfl, ?_⟩
    refine iteF ?_
    dsimp only [tNext, tSeq]
    refine ⟨.str z, rfl, _, _, _, _, true, rfl, .ty _, .base (.str z), kit_ty (by decide +kernel), ?_⟩
    refine ⟨_, rfl, ?_⟩
    refine iteT ?_
    have hlen : z.length ≤ 8 := hz.2.1
    have nonl : (10 : Nat) ∉ z.cps.toList := fun h => absurd (hz.2.2 10 h) (by decide)
    have wide : ∀ {n : Nat}, n ≤ 1000 → n ≤ sizeLine := fun h => Nat.le_trans h (by decide)
    have szl : z.length ≤ sizeLine := wide (by omega)
    refine ⟨.str z, rfl, 10, z, congrArg V.str (by decide +kernel), rfl, _, rfl, ?_⟩
    rw [decide_eq_false nonl]
    refine iteF ?_
    dsimp only [tNext, tSeq]
    refine ⟨.str z, rfl, _, _, _, _, true, rfl, .ty _, .base (.str z), kit_ty (by decide +kernel), ?_⟩
    refine ⟨_, rfl, ?_⟩
    refine iteT ?_
    have zne : z ≠ "" := fun e => by
      have := hz.1
      rw [e] at this
      exact absurd this (by decide)
    refine ⟨.str z, rfl, rfl, _, rfl, ?_⟩
    rw [show decide (V.str z = V.str "") = false from decide_eq_false fun e => zne (V.str.inj e)]
    refine iteT ?_
    refine ⟨.ref p, rfl, .str z, rfl, z, rfl, szl, p, (z.length : Int), k + 9, rfl, hP, by have := hz.1; omega, by omega, fun at0 H1 a0 a1 d1 => ?_⟩
    have hs := sm_nm hz
    refine ⟨.ref p, rfl, "abxyz019- ", rfl, wide (show ("abxyz019- " : Str).length ≤ 1000 by decide +kernel), fun l hl => ?_⟩
    have dl := d1.new (o := .lst (("abxyz019- " : Str).cps.toList.map sgn)) hl
    have gl : (upd H1 l (.lst (("abxyz019- " : Str).cps.toList.map sgn))) l = some (.lst (("abxyz019- " : Str).cps.toList.map sgn)) := upd_same
    have nlp := d1.2.ne hl
    generalize upd H1 l (.lst (("abxyz019- " : Str).cps.toList.map sgn)) = H2 at *
    refine ⟨p, l, _, 4, k + 5, rfl, dl.2, SqL.of gl, nlp, by rw [List.length_map]; decide +kernel, by rw [List.length_map]; decide +kernel, fun q1 ys zs H3 ly pm d3 nq1 nqp gq => ?_⟩
    have dm := dl.trans d3
    refine ⟨q1, rfl, ⟨_, SqL.of gq⟩, fun D hD => ?_⟩
    have sg : ∀ y ∈ ys, ∃ s, y = .str s ∧ Sm 1 s := fun y hy => by
      have h := pm.mem_iff.mp (List.mem_append.mpr (.inl hy))
      obtain ⟨c, hc, rfl⟩ := List.mem_map.mp h
      have hb : ∀ c ∈ ("abxyz019- " : Str).cps.toList, c < 16 ^ 8 := by decide +kernel
      exact ⟨mk [c], sgn_mk c, sm_of (l := [c]) rfl (Nat.le_refl _) fun d hd => by rw [List.mem_singleton.mp hd]; exact hb c hc⟩
    have cat : ∀ {y z : Str} {n m : Nat}, Sm n y → Sm m z → n + m ≤ 1000 → y.length + z.length ≤ sizeLine := fun h k e => wide (Nat.le_trans (Nat.add_le_add h.1 k.1) e)
    refine lc_list (K := K) (a := q1) (xs := ys) (fun i H' => Same H3 H' ∧ ∃ acc : List V, H' D = some (.lst acc) ∧ acc.length = i ∧ ∀ x ∈ acc, ∃ s, x = .str s ∧ Sm 17 s) ⟨same_new hD, [], upd_same, rfl, fun x hx => by cases hx⟩ (fun i H' _ ⟨s, _⟩ => SqL.of (s _ _ gq)) ?_ ?_
    · rintro i y H4 hy ⟨s4, acc, ga, la, ha⟩
      obtain ⟨s, rfl, hsg⟩ := sg y (List.mem_of_getElem? hy)
      have hi : i < 4 := by
        have := (List.getElem?_eq_some_iff.mp hy).1
        omega
      refine ⟨rfl, ?_⟩
      refine ⟨.str z, rfl, .int at0, rfl, at0, rfl, z, rfl, szl, .str s, rfl, _, _, rfl, rfl, cat (sm_cut hs _ _) hsg (by decide), .str z, rfl, .int at0, rfl, _, _, rfl, rfl, _, rfl, z, rfl, szl, _, _, rfl, rfl, cat (sm_app (sm_cut hs _ _) hsg) (sm_cut hs _ _) (by decide), acc, ga, small1000 (by omega), fun b o e => ?_, acc ++ [_], upd_same, by rw [List.length_append, la]; rfl, fun x hx => ?_⟩
      · rw [upd_ne (ne_of_none e hD)]
        exact s4 _ _ e
      · rcases List.mem_append.mp hx with hx | hx
        · exact ha x hx
        · rw [List.mem_singleton.mp hx]
          exact ⟨_, rfl, sm_app (sm_app (sm_cut hs _ _) hsg) (sm_cut hs _ _)⟩
    · rintro H4 ⟨s4, acc, ga, la, ha⟩
      have d4 := dm.sm s4
      have nDp : D ≠ p := dm.2.ne hD
      have ha4 : Sm 1 "a" := sm_of (l := [97]) (by decide +kernel) (by decide) (by decide)
      have hm4 : Sm 1 "-" := sm_of (l := [45]) (by decide +kernel) (by decide) (by decide)
      refine ⟨.ref p, rfl, .ref D, rfl, .str z, rfl, _, _, rfl, rfl, cat hs ha4 (by decide), .str z, rfl, 1, rfl, z, rfl, szl, .str z, rfl, ⟨_, rfl⟩, z, rfl, rfl, by omega, .str z, rfl, wide (show 1 ≤ 1000 by decide), fun l1 hl1 => ?_⟩
      have d5 := d4.new (o := .lst [.str z]) hl1
      have g5 : (upd H4 l1 (.lst [.str z])) l1 = some (.lst [.str z]) := upd_same
      have ga5 := same_new (o := .lst [.str z]) hl1 _ _ ga
      have n1p := d4.2.ne hl1
      generalize upd H4 l1 (.lst [.str z]) = H5 at *
      refine ⟨.str z, rfl, _, _, rfl, rfl, cat hm4 hs (by decide), .str z, rfl, wide (show 1 ≤ 1000 by decide), fun t1 ht1 => ?_⟩
      have d6 := d5.new (o := .tup [.str z]) ht1
      have g6 : (upd H5 t1 (.tup [.str z])) t1 = some (.tup [.str z]) := upd_same
      have g56 := same_new (o := .tup [.str z]) ht1 _ _ g5
      have ga6 := same_new (o := .tup [.str z]) ht1 _ _ ga5
      have n2p := d5.2.ne ht1
      generalize upd H5 t1 (.tup [.str z]) = H6 at *
      refine ⟨wide (show 7 ≤ 1000 by decide), fun l2 hl2 => ?_⟩
      obtain ⟨xs2, hx2⟩ : ∃ xs2 : List V, xs2 = [.str (z ++ "a"), .str (cutS z (some 1) none), .str (Txt.upper z), .ref l1, .non, .str ("-" ++ z), .ref t1] := ⟨_, rfl⟩
      have lx2 : xs2.length = 7 := by
        rw [hx2]
        rfl
      have i2 : ∀ {HH : Hp}, HH l1 = some (.lst [.str z]) → HH t1 = some (.tup [.str z]) → ∀ x ∈ xs2, Itm K p HH x := by
        rw [hx2]
        intro HH g56 g6 x hx
        simp only [List.mem_cons, List.mem_nil_iff, or_false] at hx
        rcases hx with rfl | rfl | rfl | rfl | rfl | rfl | rfl
        · exact ((sm_app hs ha4).lf (by decide)).itm
        · exact ((sm_cut hs _ _).lf (by decide)).itm
        · exact ((sm_upper hz).lf (by decide)).itm
        · exact itm_lst g56 n1p (.cons (lf_lnm hz) .nil) (by show 1 ≤ 20; decide)
        · exact lf_non.itm
        · exact ((sm_app hm4 hs).lf (by decide)).itm
        · exact itm_tup g6 n2p (.cons (lf_lnm hz) .nil) (by show 1 ≤ 20; decide)
      rw [← hx2]
      have s7 := same_new (o := .lst xs2) hl2
      have d7 := d6.new (o := .lst xs2) hl2
      refine ⟨D, l2, acc, xs2, rfl, rfl, s7 _ _ ga6, upd_same, wide (by rw [la, lx2, ly]; decide), fun l3 hl3 => ?_⟩
      have s8 := same_new (o := .lst (acc ++ xs2)) hl3
      have d8 := d7.new (o := .lst (acc ++ xs2)) hl3
      refine ⟨p, l3, acc ++ xs2, k, rfl, d8.2.mono (by omega), SqL.of upd_same, d7.2.ne hl3, by rw [List.length_append, la, lx2]; omega, by rw [List.length_append, la, lx2, ly]; decide, fun i x H' hx d9 => ?_⟩
      have any : ∀ {HH : Hp}, HH l1 = some (.lst [.str z]) → HH t1 = some (.tup [.str z]) → Itm K p HH x := fun {HH} e1 e2 => by
        rcases List.mem_append.mp (List.mem_of_getElem? hx) with hx | hx
        · obtain ⟨s, rfl, h⟩ := ha x hx
          exact (h.lf (by decide)).itm
        · exact i2 e1 e2 x hx
      have e1 := d9.st n1p (s8 _ _ (s7 _ _ g56))
      have e2 := d9.st n2p (s8 _ _ (s7 _ _ g6))
      refine q x H' (d8.trans d9) (fun D hDp hD => ?_) (any e1 e2)
      obtain ⟨oD, hoD⟩ := hD
      have d1l := d4.st hDp hoD
      have nl1 : l1 ≠ D := fun z => by
        rw [← z, hl1] at d1l
        cases d1l
      have d2l := d5.st hDp hoD
      have nt1 : t1 ≠ D := fun z => by
        rw [← z, ht1] at d2l
        cases d2l
      exact any (by rw [Hm.ne nl1]; exact e1) (by rw [Hm.ne nt1]; exact e2)
end
end OG
set_option Elab.async false
set_option linter.all false
set_option maxRecDepth 100000
set_option maxHeartbeats 4000000
namespace OGX
open PySem PySem.Spec PyProof.Rows L2
/-! o.m(k = v, ..); o == v, v of another kind -/
def tMethK (C : Addr) (m : Str) (sp : Sp) (gV : List V → List V → List V) (E : XK) (ta : TE) (tk : TA) : TE := fun σ H Q => ta σ H fun x H1 => ∃ a dx fs, x = .ref a ∧ H1 a = some (.ins C dx fs) ∧ fs.lookup m = none ∧ tk σ H1 fun zs H2 => sp (gV [x] zs) H2 Q E
section
variable {X : Cx} {CX : CXT} {k : Nat} {f C : Addr} {fd : FuncData} {ps ks : List Str} {sp : Sp} {E : XK} {m : Str} {p pos apos : Pos} {o : Expr} {kws : List Keyword} {ta : TE} {tk : TA} {g : List Value → List Value → List Value} {gV : List V → List V → List V}
theorem pe_methK0 {pl : Sem Bool} (he : PE X o ta) (c : Cls X.K C) (hm : Meth X.K C m f) (F : FnOk X.prog X.w X.K X.mg X.base CX k f fd ps sp) (hr : Room k X.A) (hb : KBinds X.K fd ps ks g gV) (hx : Passes CX X E) (hkw : PK X kws tk)
    (hall : (backToKw pos (keywordEach kws X.env)).all (·.1.isSome) = true := by rfl) (hks : (backToKw pos (keywordEach kws X.env)).filterMap (·.1) = ks := by rfl)
    (hpl : ((backTo pos (starEach [] X.env)).any (·.1) || (backToKw pos (keywordEach kws X.env)).any (·.1.isNone)) = false := by rfl)
    (ht : eval (.Call (.Attribute o m apos) [] kws pos) X.env = (do
      let ov ← eval o X.env
      standAt apos.atName
      let (f, first) ← holding [ov] (getMethod ov m pl)
      callWith pos f first (backTo pos (starEach [] X.env)) (backToKw pos (keywordEach kws X.env))) := by rfl) :
    PE X (.Call (.Attribute o m apos) [] kws pos) (tMethK C m sp gV E ta tk) := by
  refine ⟨fun pins s σ H Q I h => ?_⟩
  refine PySem.W.methodCall_KW (pl := pl) (thn (he.run pins s σ H _ I h) fun u s1 ⟨x, H1, I1, rx, a, dx, fs, ex, ea, l, q⟩ => ?_) ht
  subst ex
  obtain rfl : u = Value.ref a := rx
  refine getmeth_ok I1 ea c hm l ?_
  refine PySem.W.callWith_KW0 (first := [.ref a]) (h₀ := X.base) I.ok.mod.kin hm.kp hall (thn (hkw.run pos pins s1 σ H1 _ I1 q) fun ws s2 ⟨zs, H2, I2, rz, q2⟩ => ⟨I2.kIn, ?_⟩) hpl
  rw [hks]
  exact run_fnk (us := [.ref a]) (vs := [.ref a]) F hr hb hx I2 (.cons rfl .nil) rz q2
end
/-- a value of another kind: None, an int, a text, a tuple, a dict, a list -/
inductive OthT (H : Hp) : V → String → Prop where
  | non : OthT H .non "NoneType"
  | bl (b : Bool) : OthT H (.bl b) "bool"
  | int (i : Int) : OthT H (.int i) "int"
  | str (z : Str) : OthT H (.str z) "str"
  | tup {a : Addr} {xs : List V} (h : H a = some (.tup xs)) : OthT H (.ref a) "tuple"
  | lst {a : Addr} {xs : List V} (h : H a = some (.lst xs)) : OthT H (.ref a) "list"
  | dK {a : Addr} {kvs : List (Key × V)} (h : H a = some (.dK kvs)) : OthT H (.ref a) "dict"
theorem looks_cls {M : Model} {h : Heap} {a : Addr} {o : Obj} (e : h.get? a = some o) : PySem.W.Looks M h (typeOf (.ref a)) o.cls := (PySem.W.Looks.ld e).andThen .now
section
variable {X : Cx} {CX : CXT} {k : Nat} {f C : Addr} {fd : FuncData} {ps : List Str} {sp : Sp} {E : XK}
theorem OthT.looks {pins : List (Addr × Obj)} {σ : L2.St} {H : Hp} {s : Shared} {v : V} {u : Value} {t : String} {M : Model} (h : OthT H v t) (I : Inv X pins σ H s) (r : RelV v u) : PySem.W.Looks M s.heap (typeOf u) (.type t) := by
  cases h with
  | non => cases (show u = Value.none from r); exact .of_pure rfl
  | bl b => cases (show u = Value.bool b from r); exact .of_pure rfl
  | int i => obtain ⟨t, q⟩ := (show ∃ t, u = Value.int i t from r); cases q; exact .of_pure rfl
  | str z => obtain ⟨t, q⟩ := (show ∃ t, u = Value.str z t from r); cases q; exact .of_pure rfl
  | tup h =>
    cases (show u = Value.ref _ from r)
    obtain ⟨_, its, _, o, e, c, _⟩ := I.hok _ _ h
    exact c ▸ looks_cls e
  | lst h =>
    cases (show u = Value.ref _ from r)
    obtain ⟨_, its, n, _, e⟩ := I.hok _ _ h
    exact looks_cls e
  | dK h =>
    cases (show u = Value.ref _ from r)
    obtain ⟨_, _, vs, _, o, es, ep, e, x, _⟩ := I.hok _ _ h
    exact x.1 ▸ looks_cls e
/-- o == v, o with an own __eq__ -/
def rEqA (K : PySem.W.Frag) (C : Addr) (sp : Sp) (E : XK) : R2 := fun x y H Q => ∃ (a dx : Addr) (fs : List (Str × V)), x = .ref a ∧ H a = some (.ins C dx fs) ∧ ((∃ (b dy : Addr) (gs : List (Str × V)), y = .ref b ∧ H b = some (.ins C dy gs)) ∨ ∃ t, OthT H y t ∧ PySem.W.notFirst K C (.type t) = true) ∧
  sp [.ref a, y] H (fun v H' => ∃ b, v = .bl b ∧ Q (.bl b) H') E
theorem op_eqAny (F : FnOk X.prog X.w X.K X.mg X.base CX k f fd ps sp) (hr : Room k X.A) (hs : PySem.W.findIn X.K (.ref C) "__eq__" = some (some (.ref f))) (hf : PySem.W.isFn X.K (.ref f) = true) (hb : Binds X.K fd ps []) (hx : Passes CX X E) :
    OpR X (compareOp .Eq) (rEqA X.K C sp E) := by
  intro pins s σ H x y v u Q I rx ry h
  obtain ⟨a, dx, fs, rfl, hx0, hy, q⟩ := h
  cases rx
  obtain ⟨mA, J, _⟩ := ins_get I.hok hx0
  obtain ⟨od, J, _⟩ := J.look
  obtain ⟨m, hF⟩ := I.fr
  have fin : ∀ tb, PySem.W.Looks (model X.prog X.w) s.heap (typeOf u) tb → PySem.W.notFirst X.K C tb = true → wpAny (model X.prog X.w) X.A (compareOp .Eq (.ref a) u) (EP X pins σ Q) X.xe s := fun tb ht hn =>
    PySem.W.cmp_K (op := .Eq) hr.units0 hF I.ok.mod.kin J ht hn hs hf (wpAny_mono (run_own F hr rfl hb hx I (.cons (show L2.RelV (.ref a) (Value.ref a) from rfl) (.cons ry .nil)) q) (fun v s' z => by
      obtain ⟨y, H', I', ry, b, rfl, q'⟩ := z
      cases ry
      exact ⟨.bl b, H', I', rfl, q'⟩) fun _ _ z => z)
  rcases hy with ⟨b, dy, gs, rfl, hb0⟩ | ⟨t, ho, hn⟩
  · cases ry
    obtain ⟨mB, J', _⟩ := ins_get I.hok hb0
    obtain ⟨od', J', _⟩ := J'.look
    exact fin _ J'.type (by simp [PySem.W.notFirst])
  · exact fin _ (ho.looks I ry) hn
theorem op_eqAnyK (K : PySem.W.Frag) (F : FnOk X.prog X.w X.K X.mg X.base CX k f fd ps sp) (hr : Room k X.A) (hs : PySem.W.findIn X.K (.ref C) "__eq__" = some (some (.ref f))) (hf : PySem.W.isFn X.K (.ref f) = true) (hb : Binds X.K fd ps []) (hx : Passes CX X E) (hK : X.K = K := by rfl) :
    OpR X (compareOp .Eq) (rEqA K C sp E) := hK ▸ op_eqAny F hr hs hf hb hx
end
end OGX
set_option Elab.async false
set_option linter.all false
set_option maxRecDepth 100000
set_option maxHeartbeats 8000000
namespace OG
open PySem PySem.Spec PyProof.Rows L2 LamX
/-! what does not look at tables -/
theorem SqT.extN {K : PySem.W.Frag} {H H' : Hp} {a : Addr} {xs : List V} (h : SqT K H a xs) (e : ExtN H H') : SqT K H' a xs :=
  h.elim (fun h => .inl (h.elim (fun h => .inl (e _ _ h fun _ z => by cases z)) fun ⟨o, h⟩ => .inr ⟨o, e _ _ h fun _ z => by cases z⟩)) fun h => .inr h
theorem SqL.extN {K : PySem.W.Frag} {H H' : Hp} {a : Addr} {xs : List V} (h : SqL K H a xs) (e : ExtN H H') : SqL K H' a xs :=
  h.elim (fun h => .inl (h.elim (fun h => .inl (e _ _ h fun _ z => by cases z)) fun ⟨o, h⟩ => .inr ⟨o, e _ _ h fun _ z => by cases z⟩)) fun h => .inr h
mutual
theorem Dp.extN {K : PySem.W.Frag} {H H' : Hp} (s : ExtN H H') : ∀ {v : V} {d : PyData}, Dp K H v d → Dp K H' v d
  | _, _, .non => .non
  | _, _, .bl b => .bl b
  | _, _, .int i => .int i
  | _, _, .str z => .str z
  | _, _, .lst h a => .lst (SqL.extN h s) (DpAll.extN s a)
  | _, _, .tup h a => .tup (SqT.extN h s) (DpAll.extN s a)
theorem DpAll.extN {K : PySem.W.Frag} {H H' : Hp} (s : ExtN H H') : ∀ {vs : List V} {ds : List PyData}, DpAll K H vs ds → DpAll K H' vs ds
  | _, _, .nil => .nil
  | _, _, .cons h a => .cons (Dp.extN s h) (DpAll.extN s a)
end
theorem ScrAt.extN {K : PySem.W.Frag} {C : Addr} {H H' : Hp} {x : Addr} {lns : List Ln} (h : ScrAt K C H x lns) (s : ExtN H H') : ScrAt K C H' x lns := by
  obtain ⟨dx, lt, kd, ga, fs, xs, kvs, hx, l, f1, f2, gl, td, f3, g3, f4, f5, f6, gk, kn, f7⟩ := h
  exact ⟨dx, lt, kd, ga, fs, xs, kvs, s _ _ hx (fun _ z => by cases z), l, f1, f2, s _ _ gl (fun _ z => by cases z), td.mv (ExtN.tk s), f3, g3.mv (ExtN.tk s), f4, f5, f6, s _ _ gk (fun _ z => by cases z), kn.mv (ExtN.tk s), f7⟩
/-- all but p, a list, stays -/
theorem ScrAt.kp {K : PySem.W.Frag} {C : Addr} {H H' : Hp} {x p : Addr} {lns : List Ln} (h : ScrAt K C H x lns) (hp : ∃ ys, H p = some (.lst ys)) (k : Kp p H H') : ScrAt K C H' x lns := by
  obtain ⟨dx, lt, kd, ga, fs, xs, kvs, hx, l, f1, f2, gl, td, f3, g3, f4, f5, f6, gk, kn, f7⟩ := h
  have ne : ∀ {b o}, H b = some o → (∀ xs, o ≠ .lst xs) → b ≠ p := fun {b o} e n z => by
    obtain ⟨ys, hp⟩ := hp
    rw [z, hp] at e
    exact n ys (Option.some.inj e).symm
  have t := k.tk hp
  exact ⟨dx, lt, kd, ga, fs, xs, kvs, k _ _ (ne hx fun _ z => by cases z) hx, l, f1, f2, k _ _ (ne gl fun _ z => by cases z) gl, td.mv t, f3, g3.mv t, f4, f5, f6, k _ _ (ne gk fun _ z => by cases z) gk, kn.mv t, f7⟩
theorem NearV.extN {H H' : Hp} (s : ExtN H H') : ∀ {v : V}, NearV H v → NearV H' v
  | .non, h => h
  | .bl _, h => h
  | .int _, h => h
  | .str _, h => h
  | .ref a, h => by
    rcases h with ⟨xs, h⟩ | ⟨xs, h⟩ | ⟨xs, h⟩
    · exact .inl ⟨xs, s _ _ h fun _ z => by cases z⟩
    · exact .inr (.inl ⟨xs, s _ _ h fun _ z => by cases z⟩)
    · exact .inr (.inr ⟨xs, s _ _ h fun _ z => by cases z⟩)
theorem Hm.extN {p : Addr} {H H' : Hp} (k : ExtN H H') : ExtN (Hm p H) (Hm p H') := fun b o e n => by
  by_cases nb : b = p
  · rw [nb] at e
    unfold Hm at e
    rw [if_pos rfl] at e
    cases e
  · rw [Hm.ne nb] at e ⊢
    exact k b o e n
theorem ShD.extN {K : PySem.W.Frag} {H H' : Hp} {v : V} {d : PyData} (s : ExtN H H') (h : OGX.ShD K H v d) : OGX.ShD K H' v d := by
  rcases h with ⟨h, e⟩ | ⟨a, rfl, ⟨h, e⟩ | ⟨k, i, h, e⟩⟩
  · exact .inl ⟨Dp.extN s h, e⟩
  · exact .inr ⟨a, rfl, .inl ⟨s _ _ h (fun _ z => by cases z), e⟩⟩
  · exact .inr ⟨a, rfl, .inr ⟨k, i, s _ _ h (fun _ z => by cases z), e⟩⟩
theorem Val.extN {K : PySem.W.Frag} {p : Addr} {H H' : Hp} {v : V} (h : Val K p H v) (s : ExtN H H') : Val K p H' v := by
  obtain ⟨e, h1, h2⟩ := h.dat
  refine ⟨NearV.extN s h.near, ⟨e, ShD.extN (Hm.extN s) h1, h2⟩, fun a xs ev ha => ?_⟩
  subst ev
  have old : H a = some (.tup xs) := by
    rcases h.near with ⟨ys, e⟩ | ⟨ys, e⟩ | ⟨ys, e⟩
    · rw [s _ _ e fun _ z => by cases z] at ha
      cases ha
    · rw [s _ _ e fun _ z => by cases z] at ha
      cases ha
      exact e
    · rw [s _ _ e fun _ z => by cases z] at ha
      cases ha
  obtain ⟨i1, i2⟩ := h.its a xs rfl old
  exact ⟨fun x hx => NearV.extN s (i1 x hx), i2⟩
/-- repr of a value -/
theorem Val.shd {K : PySem.W.Frag} {p : Addr} {H : Hp} {v : V} (h : Val K p H v) : ∃ d, OGX.ShD K H v d ∧ d.showable = true ∧ d.depth ≤ 60 ∧ d.shown.length ≤ sizeLine := by
  obtain ⟨e, h1, h2⟩ := h.dat
  exact ⟨e, ShD.sm Hm.same h1, h2⟩
/-- the lambda's name -/
def jq : Str := (envOfC "_law_are_values_right" (defScope s_l_are_values_right) (0 : Nat) (0 : Nat) .none).qual ++ "<lambda>"
abbrev TT1 (P1 : Addr) : List (Addr × Str) := [(P1, jq)]
/-- the judge's code object -/
structure JAt (K : PySem.W.Frag) (mg : Str → Option Value) (T : Txt K mg) (c : Addr) : Prop where
  ex : ∃ (oc : Value) (od : Option Addr) (kV doc pm : Value) (an : Option Addr) (ct : Value) (osl : Array (Option Value)),
    T.fd_l_are_values_right = PySem.W.fnOf "_law_are_values_right" "_law_are_values_right" (defArgs s_l_are_values_right) (defBody s_l_are_values_right) (defScope s_l_are_values_right) .none kV doc pm an (.ref c) ct ∧ K.lookup T.f_l_are_values_right = some ⟨oc, od, .func T.fd_l_are_values_right, osl⟩ ∧ PySem.W.codeIn K (.ref c) "_law_are_values_right" = true
/-- what is made of the call that is heard -/
def THeard (K : PySem.W.Frag) (CS : Addr) : (XK → Hp → VK → Prop) → Hp → VK → Prop := fun tl H Q => ∀ H1, Same H H1 →
  tl (fun cls d H' => ∃ b, PySem.W.exmOne K cls (.ref CS) = some b ∧ (b = true → ∀ a, H' a = none → ∀ t, upd H' a (OGX.ExV cls d a) t = none → Q (.ref t) (upd (upd H' a (OGX.ExV cls d a)) t (.tup [.ref a, .non]))) ∧ (b = false → False)) H1
    (fun v H' => ∀ t, H' t = none → Q (.ref t) (upd H' t (.tup [.non, v])))
theorem pe_weak {X : Cx} {e : Expr} {te : TE} (h : PE X e te) : PE X e (fun σ H Q => ∃ Qs : VK, (∀ v H', Qs v H' → Q v H') ∧ te σ H Qs) := by
  refine ⟨fun pins s σ H Q I hh => ?_⟩
  obtain ⟨Qs, hq, ht⟩ := hh
  refine wpAny_mono (h.run pins s σ H Qs I ht) (fun u s1 hu => ?_) fun _ _ x => x
  obtain ⟨v, H1, I1, r1, q1⟩ := hu
  exact ⟨v, H1, I1, r1, hq v H1 q1⟩
theorem pe_imp {X : Cx} {e : Expr} {t t' : TE} (h : PE X e t) (i : ∀ σ H Q, t' σ H Q → t σ H Q) : PE X e t' := ⟨fun pins s σ H Q I q => h.run pins s σ H Q I (i σ H Q q)⟩
section
variable {P : Program} {w : World} {K : PySem.W.Frag} {mg : Str → Option Value} {base : Heap}
theorem heard_gives {T : Txt K mg} {g : Addr} {cdg : Value} {q : Str} : OGX.GivesToA P w K mg base ["call", "caught", "back", "error"] "_law_heard" (defScope s_l_heard) g cdg (defBody s_l_heard) "call" q (THeard K T.c_GateError) := by
  intro A outer f c' s H Q tl act hc h
  refine ⟨_, pss_cons (ps_asg (pe_tup (pa_cons pe_non (pa_cons pe_non pa_nil))) (pg_tup (by rfl) (pgs_cons (pg_name (i := 1) sc_l_heard.nd rfl (Or.inl rfl)) (pgs_cons (pg_name (i := 2) sc_l_heard.nd rfl (Or.inl rfl)) pgs_nil))))
    (pss_cons (OGX.ps_try_keep (i := 3) (c := .ref T.c_GateError)
      (tb := fun W D σ H => ∃ Ech : XK, (∀ cls d H', Ech cls d H' → W cls d σ H') ∧ σ[0]? = some (some (.ref f)) ∧ H c' = some (CodeO c' q) ∧ ∃ Qs : VK, (∀ v H', Qs v H' → D.nx (σ.set 2 (some v)) H') ∧ tl Ech H Qs)
      rfl rfl rfl sc_l_heard.nd rfl rfl ⟨by rfl, by decide, .inl T.g_GateError⟩ L2.takes0 (fun W pn xe tk _ => ?_) (fun a oe cls d pn _ _ => pss_one (ps_set (i := 1) sc_l_heard.nd rfl (Or.inl rfl) (pv 3))))
    (pss_one (ps_ret (pe_tup (pa_cons (pv 1) (pa_cons (pv 2) pa_nil)))))), ?_⟩
  · refine ⟨fun pins s' σ H' D I h' => ?_⟩
    obtain ⟨Ech, hW, h1, h2, Qs, hQ, h3⟩ := h'
    exact (pss_one (ps_set (i := 2) sc_l_heard.nd rfl (Or.inl rfl) (pe_weak (act W pn xe Ech σ _ _ tk hW)))).run pins s' σ H' D I ⟨Qs, hQ, rfl, h1, h2, h3⟩
  · refine ⟨Nat.le_trans (show 2 ≤ 1000 by decide) (by decide), fun t0 ht0 => ?_⟩
    have s0 := same_new (o := .tup [.non, .non]) ht0
    refine ⟨t0, _, rfl, SqT.of upd_same, rfl, _, _, rfl, _, _, rfl, rfl, ?_⟩
    refine ⟨_, ?_, rfl, s0 _ _ hc, _, ?_, h _ s0⟩
    · rintro cls d H' ⟨b, e1, e2, e3⟩
      refine ⟨b, e1, fun hb a ha => ?_, fun hb => e3 hb⟩
      refine ⟨.ref a, rfl, fun na => ?_⟩
      exact ⟨_, rfl, _, rfl, Nat.le_trans (show 2 ≤ 1000 by decide) (by decide), fun t ht => e2 hb a ha t ht⟩
    · intro v H' hv
      exact ⟨_, rfl, _, rfl, Nat.le_trans (show 2 ≤ 1000 by decide) (by decide), fun t ht => hv t ht⟩
/-- self.f(k = v): the arguments in their places -/
def next2 {α : Type} : List α → List α → List α
  | [a], [b] => [a, b]
  | _, _ => []
theorem next2_rel {vs zs : List V} {us ws : List Value} (r : Vals vs us) (r2 : Vals zs ws) : Vals (next2 vs zs) (next2 us ws) := by
  cases r with
  | nil => exact .nil
  | cons a r =>
    cases r with
    | cons b r => exact .nil
    | nil =>
      cases r2 with
      | nil => exact .nil
      | cons b r2 =>
        cases r2 with
        | nil => exact .cons a (.cons b .nil)
        | cons c r2 => exact .nil
theorem kb_gates_of {f : Addr} {fd : FuncData} (F : Fun K "gates_of" "Script.gates_of" s_Script_gates_of f fd) : KBinds K fd ["self", "name"] ["name"] next2 next2 := by
  obtain ⟨oc, od, kV, doc, pm, an, cdv, ct, osl, rfl, lk, hcd⟩ := F.ex
  refine ⟨fun s us ws _ hl => ?_, next2_rel⟩
  match us, ws, hl with
  | [a], [b], _ => exact BindsTo.of_eq rfl
  | [], _, h => cases h
  | [_], [], h => cases h
  | [_], _ :: _ :: _, h => cases h
  | _ :: _ :: _, _, h => cases h
theorem kn_init {f : Addr} {fd : FuncData} (F : Fun K "__init__" "Script.__init__" s_Script_init f fd) : KBn K fd ["self", "text"] 1 ["text"] next2 next2 := by
  obtain ⟨oc, od, kV, doc, pm, an, cdv, ct, osl, rfl, lk, hcd⟩ := F.ex
  refine ⟨fun s us ws _ h1 h2 => ?_, next2_rel⟩
  match us, ws, h1, h2 with
  | [a], [b], _, _ => exact BindsTo.of_eq rfl
end
theorem tabS_kp {H H' : Hp} {p Pt : Addr} {q : Str} (t : TabS H Pt q) (hp : ∃ xs, H p = some (.lst xs)) (k : Kp p H H') : TabS H' Pt q := by
  obtain ⟨ys, hp⟩ := hp
  have ne : ∀ {b o}, H b = some o → (∀ xs, o ≠ .lst xs) → b ≠ p := fun {b o} e n z => by
    rw [z, hp] at e
    exact n ys (Option.some.inj e).symm
  obtain ⟨ps, h1, h2, h3⟩ := t
  refine ⟨ps, k _ _ (ne h1 fun xs z => by cases z) h1, h2, fun pos cv hc => ?_⟩
  obtain ⟨c, e1, e2⟩ := h3 pos cv hc
  exact ⟨c, e1, k _ _ (ne e2 fun xs z => by
    unfold CodeO at z
    cases z) e2⟩
theorem tabs_kp {H H' : Hp} {p : Addr} {TT : List (Addr × Str)} (t : Tabs TT H) (hp : ∃ xs, H p = some (.lst xs)) (k : Kp p H H') : Tabs TT H' := fun q hq => tabS_kp (t q hq) hp k
/-- all but p and the tables stays -/
def KpN (p : Addr) (H H' : Hp) : Prop := ∀ b o, b ≠ p → H b = some o → (∀ ps, o ≠ .tbl ps) → H' b = some o
/-- a value that is one of some names -/
def inN (v : V) (l : List Str) : Bool := match v with
  | .str z => decide (z ∈ l)
  | _ => false
theorem inL_inN (v : V) (lns : List Ln) : inL v lns = inN v (lns.map (·.nm)) := by cases v <;> rfl
def tIsIn (i j : Nat) : TE := fun σ H Q => ∃ (v : V) (L : Addr) (l : List Str), σ[i]? = some (some v) ∧ σ[j]? = some (some (.ref L)) ∧ NearV H v ∧ H L = some (.lst (l.map V.str)) ∧ Q (.bl (inN v l)) H
end OG
set_option Elab.async false
set_option linter.all false
set_option maxRecDepth 100000
set_option maxHeartbeats 8000000
namespace OG
open PySem PySem.Spec PyProof.Rows L2 LamX
theorem iteF' {c : Prop} [Decidable c] {A B : Prop} (h : ¬ c) (b : B) : if c then A else B := by rwa [if_neg h]
theorem iteT' {c : Prop} [Decidable c] {A B : Prop} (h : c) (b : A) : if c then A else B := by rwa [if_pos h]
/-- a value that can be shown -/
structure Vw (K : PySem.W.Frag) (p : Addr) (H : Hp) (v : V) : Prop where
  near : NearV H v
  dat : ∃ d, OGX.ShD K (Hm p H) v d ∧ d.showable = true ∧ d.depth ≤ 60 ∧ d.shown.length ≤ sizeLine
section
variable {K : PySem.W.Frag} {p : Addr} {H H' : Hp} {v : V}
theorem Val.vw (h : Val K p H v) : Vw K p H v := ⟨h.near, h.dat⟩
theorem Itm.vw (h : Itm K p H v) : Vw K p H v := by
  obtain ⟨d, h1, h2⟩ := h.dat
  exact ⟨h.near, d, .inl ⟨h1, h2.nd⟩, h2.sh, Nat.le_trans h2.dp (by decide), Nat.le_trans h2.ln (by decide)⟩
theorem Vw.dr {k : Nat} (h : Vw K p H v) (d : Dr p k H H') : Vw K p H' v := by
  obtain ⟨e, h1, h2⟩ := h.dat
  exact ⟨NearV.dr d h.near, e, ShD.sm (Hm.kp d.1) h1, h2⟩
theorem Vw.same (h : Vw K p H v) (s : Same H H') : Vw K p H' v := by
  obtain ⟨e, h1, h2⟩ := h.dat
  exact ⟨NearV.same s h.near, e, ShD.sm (Hm.kp (Same.kp s)) h1, h2⟩
theorem Vw.extN (h : Vw K p H v) (s : ExtN H H') : Vw K p H' v := by
  obtain ⟨e, h1, h2⟩ := h.dat
  exact ⟨NearV.extN s h.near, e, ShD.extN (Hm.extN s) h1, h2⟩
theorem Vw.shd (h : Vw K p H v) : ∃ d, OGX.ShD K H v d ∧ d.showable = true ∧ d.depth ≤ 60 ∧ d.shown.length ≤ sizeLine := by
  obtain ⟨e, h1, h2⟩ := h.dat
  exact ⟨e, ShD.sm Hm.same h1, h2⟩
end
section
variable {P : Program} {w : World} {K : PySem.W.Frag} {mg : Str → Option Value} {base : Heap}
def spVR (T : Txt K mg) (Pt : Addr) : Sp := fun vs H Q _ => ∃ (p x lp : Addr) (n k : Nat) (xs : List V) (lns : List Ln), vs = [.ref p, .ref x, .ref lp] ∧ Pot (k + 11) H p ∧ ScrAt K T.c_Script H x lns ∧ H lp = some (.lst xs) ∧ lp ≠ p ∧ TdAll K H xs (lns.map Ln.data) ∧ L9 lns n ∧ 1 ≤ n ∧ n ≤ 20 ∧ Tabs (TT1 Pt) H ∧ ∀ H', KpN p H H' → Tabs (TT1 Pt) H' → Q (.bl true) H'
theorem ok_l_are_values_right (T : Txt K mg) (XT : TxtX K mg T) (XM : TxtM K mg T) {c Pt : Addr} (J : JAt K mg T c) (TB : TabB base mg c Pt) : OGX.FnG P w K mg base 9 T.f_l_are_values_right T.fd_l_are_values_right ["pot", "script", "lines"] (spVR T Pt) := by
  obtain ⟨oc, od, kV, doc, pm, an, ct, osl, efd, lk, hcd⟩ := J.ex
  rw [efd] at lk ⊢
  refine OGX.fnG_of lk hcd sc_l_are_values_right (fun vs H Q E h => ?_) fun A outer s H vs Q E hG hr h => ?_
  · obtain ⟨p, x, lp, _, _, _, _, rfl, _⟩ := h
    rfl
  obtain ⟨p, x, lp, n, k, xs, lns, rfl, hP, hX, gl, nlp, td, L, n1, n20, hT, q⟩ := h
  obtain ⟨och, odh, kVh, doch, pmh, anh, cdvh, cth, oslh, efh, lkh, hch⟩ := T.F_l_heard.ex
  have bh := T.b_l_heard
  rw [efh] at lkh bh
  refine ⟨_, (pss_cons (ps_setLc (i := 3) (own := [("line", 9)]) (g := gName 9) (by rfl) sc_l_are_values_right.nd rfl rfl (sw_true rfl rfl rfl (by decide +kernel)) (pi_list (pv 2)) (blkOk_by (own := [("line", 9)]) (by rfl)) (fun _ _ _ _ _ => (pg_name (i := 9) sc_l_are_values_right.nd rfl (Or.inl rfl))) (fun _ _ _ _ _ => pts_nil) (fun _ _ _ _ _ => (pe_ix (ix_tupK K) (pv 9) pe_int (fun _ _ => rfl))))
  (pss_cons (ps_set (i := 4) sc_l_are_values_right.nd rfl (Or.inl rfl) (pe_op op_cat (pv 3) (pe_lst (pa_cons pe_str (pa_cons pe_str (pa_cons pe_str (pa_cons pe_str (pa_cons (pe_op op_add_str (pe_ix ix_list (pv 3) pe_int (fun _ _ => rfl)) pe_str) (pa_cons (pe_upper (pe_ix ix_list (pv 3) (pe_un un_neg pe_int) (fun _ _ => rfl))) (pa_cons pe_non (pa_cons pe_int (pa_cons (pe_tup (pa_cons (pe_ix ix_list (pv 3) pe_int (fun _ _ => rfl)) pa_nil)) (pa_cons (pe_lst (pa_cons (pe_ix ix_list (pv 3) pe_int (fun _ _ => rfl)) pa_nil)) pa_nil)))))))))))))
  (pss_cons (ps_for PassesOwn.never rfl (pi_list (pe_op op_cat (pv 4) (pe_lst (pa_cons (pe_call (ok_l_odd T) (hr.mono (by decide)) (by rfl) T.g_l_odd T.F_l_odd.kp T.b_l_odd .nil pass0 (pa_cons (pv 0) pa_nil)) (pa_cons (pe_call (ok_l_bent_s T) (hr.mono (by decide)) (by rfl) T.g_l_bent T.F_l_bent.kp T.b_l_bent .nil pass0 (pa_cons (pv 0) (pa_cons (pe_ix ix_list (pv 3) pe_int (fun _ _ => rfl)) pa_nil))) pa_nil))))) (pg_name (i := 8) sc_l_are_values_right.nd rfl (Or.inr rfl)) (pss_cons (ps_set (i := 5) sc_l_are_values_right.nd rfl (Or.inl rfl) (pe_imp (t' := tIsIn 8 3) (pe_and (pe_callB call_isi (by rfl) T.n_isinstance (by decide +kernel) (pa_cons (pv 8) (pa_cons (pe_bltn (v := .ty "str") (by rfl) T.n_str (by decide +kernel) rfl) pa_nil))) (pe_one (pe_cmpR op_in_seq (pv 8) (pv 3) rfl))) (fun σ H Q h => by 
        obtain ⟨v, L, l, e1, e2, hv, hL, q⟩ := h
        obtain ⟨ty0, ty, kt⟩ := isi_ty (K := K) hv
        refine ⟨v, e1, _, _, ty0, _, _, rfl, .ty _, ty, kt, ?_⟩
        refine ⟨_, rfl, ?_⟩
        by_cases hs : ∃ z, v = .str z
        · obtain ⟨z, rfl⟩ := hs
          refine iteT ?_
          exact ⟨.str z, e1, .ref L, e2, L, _, rfl, .inl (SqL.of hL), rfl, flat_strs _, by rw [inV_str]; exact q⟩
        · have n2 : isStr v = false := by
            cases v <;> first | rfl | exact absurd ⟨_, rfl⟩ hs
          have n3 : inN v l = false := by
            cases v <;> first | rfl | exact absurd ⟨_, rfl⟩ hs
          rw [n2]
          refine iteF ?_
          rw [n3] at q
          exact q)))
  (pss_cons (ps_if (pt_cmpR op_ne (pe_cmpR (OGX.op_inOwn (ok_Script_contains T XT) (hr.mono (by decide)) XM.ct XM.ctF T.b_Script_contains passL) (pv 8) (pv 1) rfl) (pv 5) (nomark _)) (pss_one (ps_ret pe_bl)) pss_nil)
  (pss_cons (ps_asg (OGX.pe_lamcallS (T := TT1 Pt) (TT := THeard K T.c_GateError) (k := 5) (by rfl) T.g_l_heard T.F_l_heard.kp lkh hch bh sc_l_heard rfl (Or.inl rfl) (OGX.GivesToA.here heard_gives) TB rfl List.mem_cons_self (fun p hp _ => (by rw [List.mem_singleton.mp hp] : p.2 = jq)) (hr.mono (by decide)) (lamS_by (by show lamSB (defScope s_l_are_values_right) _ = true; decide +kernel)) rfl (fun _ _ _ _ _ => rfl)
      (fun A outer s H E f c' hr2 => OGX.pe_methK0 (pv 1) XT.cl XM.m_gates_of (ok_Script_gates_of T XT XM) (hr2.mono (by decide)) (kb_gates_of T.F_Script_gates_of) (passes_call (takes_of rfl rfl rfl rfl) (fun _ _ _ _ h => h)) (pk_cons (pv 8) pk_nil))) (pg_tup (by rfl) (pgs_cons (pg_name (i := 6) sc_l_are_values_right.nd rfl (Or.inl rfl)) (pgs_cons (pg_name (i := 7) sc_l_are_values_right.nd rfl (Or.inl rfl)) pgs_nil))))
  (pss_cons (ps_if (PW.pt (pw_or (pt_cmpR op_ne (pv 5) (pe_cmpR op_isN (pv 6) pe_non (nomark _)) (nomark _)) (pw_or1 (PW.pt (pw_and (pt_cmpR op_notN (pv 6) pe_non (nomark _)) (pw_and1 (pt_cmpR op_ne (pe_callB (OGX.call_reprV hG hr.units) (by rfl) T.n_repr (by decide +kernel) (pa_cons (OGX.pe_xvA (pv 6)) pa_nil)) (pe_callB (OGX.call_reprV hG hr.units) (by rfl) T.n_repr (by decide +kernel) (pa_cons (pv 8) pa_nil)) (nomark _)))))))) (pss_one (ps_ret pe_bl)) pss_nil)
  (pss_one (ps_if (PW.pt (pw_and (pt_cmpR op_notN (pv 6) pe_non (nomark _)) (pw_and1 (pt_not (pt_val (pe_callB OGX.call_isK (by rfl) T.n_isinstance (by decide +kernel) (pa_cons (pv 6) (pa_cons (C8.pe_gc (v := .ref T.c_NoName) (by rfl) ⟨_, T.g_NoName, rfl⟩) pa_nil)))))))) (pss_one (ps_ret pe_bl)) pss_nil)))))))
  (pss_one (ps_ret pe_bl))))), ?_⟩
  have wide : ∀ {n : Nat}, n ≤ 1000 → n ≤ sizeLine := fun h => Nat.le_trans h (by decide)
  have ll := L.len
  have xl : xs.length = lns.length := td.lnLen
  refine ⟨.ref lp, rfl, lp, rfl, ⟨_, SqL.of gl⟩, fun N hN => ?_⟩
  refine lc_mapL' (K := K) (a := lp) (xs := xs) (lns.map (·.nm)) (by rw [List.length_map, xl]) (by omega) hN (SqL.of gl) (fun _ => rfl) (fun _ _ _ q => q) (fun i v y H' Q hv hy s q => ?_) (fun H1 s1 gN => ?_)
  · obtain ⟨l2, hl2, hd2⟩ := td.lnAt hv
    obtain ⟨a2, p2, rfl, ha2, _⟩ := hd2.ln
    rw [List.getElem?_map, hl2] at hy
    cases Option.some.inj hy
    exact ⟨_, rfl, a2, _, 0, .str l2.nm, rfl, rfl, SqT.tk ha2 (Same.tk s), rfl, q _ (Same.refl _)⟩
  have nD : ∀ i z, (lns.map (·.nm))[i]? = some z → LNm z := fun i z h => by
    rw [List.getElem?_map] at h
    cases e : lns[i]? with
    | none => rw [e] at h; cases h
    | some l =>
      rw [e] at h
      cases Option.some.inj h
      exact (L.at' i l e).lnm
  obtain ⟨nms, hnms⟩ : ∃ nms, nms = lns.map (·.nm) := ⟨_, rfl⟩
  have lnm : nms.length = n := by
    rw [hnms, List.length_map, ll]
  rw [← hnms] at gN nD
  obtain ⟨z0, hz0⟩ : ∃ z, nms[0]? = some z := ⟨nms[0]'(by omega), List.getElem?_eq_getElem (by omega)⟩
  obtain ⟨zl, hzl⟩ : ∃ z, nms[n - 1]? = some z := ⟨nms[n - 1]'(by omega), List.getElem?_eq_getElem (by omega)⟩
  have nz0 := nD 0 z0 hz0
  have nzl := nD _ zl hzl
  have at0 : atI (nms.map V.str) 0 = some (.str z0) := atI_nat (j := 0) (by rw [List.getElem?_map, hz0]; rfl)
  have atl : atI (nms.map V.str) (-1) = some (.str zl) := by
    obtain ⟨pre, l, el⟩ : ∃ pre l, nms = pre ++ [l] := ⟨_, _, (List.dropLast_concat_getLast (l := nms) (by intro e; rw [e] at lnm; simp at lnm; omega)).symm⟩
    have : zl = l := by
      rw [el] at hzl lnm
      rw [List.length_append] at lnm
      rw [List.getElem?_append_right (by simp at lnm; omega)] at hzl
      have e0 : n - 1 - pre.length = 0 := by simp at lnm; omega
      rw [e0] at hzl
      exact (Option.some.inj hzl).symm
    rw [el, this, List.map_append]
    exact atI_last _ _
  refine ⟨.ref N, rfl, .ref N, rfl, N, _, 0, .str z0, rfl, rfl, SqL.of gN, at0, _, _, rfl, rfl, wide (by have := nz0.2.1; show _ + 1 ≤ 1000; omega), ?_⟩
  refine ⟨.ref N, rfl, _, rfl, N, _, -1, .str zl, rfl, rfl, SqL.of gN, atl, ⟨zl, rfl⟩, zl, rfl, rfl, by have := nzl.2.1; omega, ?_⟩
  refine ⟨.ref N, rfl, N, _, 0, .str z0, rfl, rfl, SqL.of gN, at0, wide (show 1 ≤ 1000 by decide), fun t1 ht1 => ?_⟩
  have u1 := same_new (o := .tup [.str z0]) ht1
  have gt1 : (upd H1 t1 (.tup [.str z0])) t1 = some (.tup [.str z0]) := upd_same
  have n1p : t1 ≠ p := (hP.same s1).ne ht1
  generalize upd H1 t1 (.tup [.str z0]) = H2 at *
  refine ⟨.ref N, rfl, N, _, 0, .str z0, rfl, rfl, SqL.of (u1 _ _ gN), at0, wide (show 1 ≤ 1000 by decide), fun l1 hl1 => ?_⟩
  have u2 := same_new (o := .lst [.str z0]) hl1
  have gl1 : (upd H2 l1 (.lst [.str z0])) l1 = some (.lst [.str z0]) := upd_same
  have n2p : l1 ≠ p := (hP.same (s1.trans u1)).ne hl1
  generalize upd H2 l1 (.lst [.str z0]) = H3 at *
  obtain ⟨ys, hys⟩ : ∃ ys : List V, ys = [.str "script", .str "one", .str "zz", .str "", .str (z0 ++ "0"), .str (Txt.upper zl), .non, .int 0, .ref t1, .ref l1] := ⟨_, rfl⟩
  refine ⟨wide (show 10 ≤ 1000 by decide), fun l2 hl2 => ?_⟩
  rw [← hys]
  have u3 := same_new (o := .lst ys) hl2
  have gl2 : (upd H3 l2 (.lst ys)) l2 = some (.lst ys) := upd_same
  generalize upd H3 l2 (.lst ys) = H4 at *
  have u13 := (u1.trans u2).trans u3
  have lys : ys.length = 10 := by
    rw [hys]
    rfl
  refine ⟨N, l2, _, _, rfl, rfl, u13 _ _ gN, gl2, wide (by rw [List.length_map, lnm, lys]; omega), fun S hS => ?_⟩
  have u4 := same_new (o := .lst (nms.map V.str ++ ys)) hS
  have gS : (upd H4 S (.lst (nms.map V.str ++ ys))) S = some (.lst (nms.map V.str ++ ys)) := upd_same
  have nSp : S ≠ p := (hP.same (s1.trans u13)).ne hS
  have nNp : N ≠ p := hP.ne hN
  generalize upd H4 S (.lst (nms.map V.str ++ ys)) = H5 at *
  have s5 := (s1.trans u13).trans u4
  have gt5 := (u2.trans (u3.trans u4)) _ _ gt1
  have gl5 := (u3.trans u4) _ _ gl1
  have gN5 := (u13.trans u4) _ _ gN
  have vx : ∀ {HH : Hp}, HH t1 = some (.tup [.str z0]) → HH l1 = some (.lst [.str z0]) → ∀ x ∈ nms.map V.str ++ ys, Vw K p HH x := by
    intro HH e1 e2 x hx
    rcases List.mem_append.mp hx with hx | hx
    · obtain ⟨z, hz, rfl⟩ := List.mem_map.mp hx
      obtain ⟨i, hi⟩ := List.getElem?_of_mem hz
      exact (lf_lnm (nD i z hi)).vs.vw
    · rw [hys] at hx
      simp only [List.mem_cons, List.mem_nil_iff, or_false] at hx
      rcases hx with rfl | rfl | rfl | rfl | rfl | rfl | rfl | rfl | rfl | rfl
      · exact (lfs _ (by decide +kernel)).vs.vw
      · exact (lfs _ (by decide +kernel)).vs.vw
      · exact (lfs _ (by decide +kernel)).vs.vw
      · exact (lfs _ (by decide +kernel)).vs.vw
      · exact ((sm_app (sm_nm nz0) (m := 1) (z := "0") ⟨by decide, by decide +kernel⟩).lf (by decide)).vs.vw
      · exact ((sm_upper nzl).lf (by decide)).vs.vw
      · exact (lf_non.val fun a h => by cases h).vw
      · exact (lfi 0 (by decide +kernel)).vi.vw
      · exact (val_tup e1 n1p (fun x hx => by rw [List.mem_singleton.mp hx]; exact (lf_lnm nz0).itm) (by show 1 ≤ 20; decide)).vw
      · exact (val_lst e2 n2p (fun x hx => by rw [List.mem_singleton.mp hx]; exact (lf_lnm nz0).itm) (by show 1 ≤ 20; decide)).vw
  refine ⟨.ref S, rfl, .ref p, rfl, p, k + 10, rfl, hP.same s5, fun v1 H6 d6 hv1 => ?_⟩
  refine ⟨.ref p, rfl, .ref N, rfl, N, _, 0, .str z0, rfl, rfl, SqL.of (d6.st nNp gN5), at0, p, z0, k, rfl, nz0, d6.2, fun v2 H7 d7 _ hv2 => ?_⟩
  refine ⟨wide (show 2 ≤ 1000 by decide), fun l3 hl3 => ?_⟩
  have u5 := same_new (o := .lst [v1, v2]) hl3
  have gl3 : (upd H7 l3 (.lst [v1, v2])) l3 = some (.lst [v1, v2]) := upd_same
  have w1 : Vw K p (upd H7 l3 (.lst [v1, v2])) v1 := (hv1.vw.dr d7).same u5
  have w2 : Vw K p (upd H7 l3 (.lst [v1, v2])) v2 := hv2.vw.same u5
  have d67 := (d6.trans d7).sm u5
  generalize upd H7 l3 (.lst [v1, v2]) = H8 at *
  refine ⟨S, l3, _, _, rfl, rfl, d67.st nSp gS, gl3, wide (by rw [List.length_append, List.length_map, lnm, lys]; show _ + 2 ≤ 1000; omega), fun F hF => ?_⟩
  obtain ⟨fs, hfs⟩ : ∃ fs, fs = nms.map V.str ++ ys ++ [v1, v2] := ⟨_, rfl⟩
  rw [← hfs]
  have u6 := same_new (o := .lst fs) hF
  have gF : (upd H8 F (.lst fs)) F = some (.lst fs) := upd_same
  have vf : ∀ x ∈ fs, Vw K p (upd H8 F (.lst fs)) x := fun x hx => by
    rw [hfs] at hx
    rcases List.mem_append.mp hx with hx | hx
    · exact vx (u6 _ _ (d67.st n1p gt5)) (u6 _ _ (d67.st n2p gl5)) x hx
    · simp only [List.mem_cons, List.mem_nil_iff, or_false] at hx
      rcases hx with rfl | rfl
      · exact w1.same u6
      · exact w2.same u6
  have dF := d67.sm u6
  generalize upd H8 F (.lst fs) = H9 at *
  have kF : Kp p H H9 := (Same.kp s5).trans dF.1
  have hT9 : Tabs (TT1 Pt) H9 := tabs_kp hT hP.lst kF
  have hX9 := hX.kp hP.lst kF
  have gN9 := dF.st nNp gN5
  refine ⟨F, rfl, ⟨_, SqL.of gF⟩, ?_⟩
  refine for_list (K := K) (a := F) (xs := fs) (fun i σ H' => ∃ (u5 u6 u7 u8 u9 : Option V), σ = [some (.ref p), some (.ref x), some (.ref lp), some (.ref N), some (.ref S), u5, u6, u7, u8, u9] ∧ ExtN H9 H' ∧ Tabs (TT1 Pt) H') ⟨_, _, _, _, _, rfl, ExtN.of (Same.refl _), hT9⟩ (fun i σ H' _ ⟨_, _, _, _, _, _, e, _⟩ => SqL.extN (SqL.of gF) e) ?_ ?_
  · rintro i v σ H' hv ⟨u5, u6, u7, u8, u9, rfl, e', t'⟩
    have hv := (vf v (List.mem_of_getElem? hv)).extN e'
    have gN' := e' _ _ gN9 fun _ z => by cases z
    have hX' := hX9.extN e'
    obtain ⟨dx, lt, kd, ga, fs', xs', kvs', hx', _, _, _, _, _, _, _, _, _, _, _, _, no'⟩ := id hX'
    refine ⟨v, N, nms, rfl, rfl, hv.near, gN', ?_⟩
    refine ⟨v, rfl, .ref x, rfl, x, dx, fs', rfl, hx', x, v, lns, rfl, hv.near, hX', _, rfl, .bl (inN v nms), rfl, ?_⟩
    refine ⟨rfl, _, rfl, ?_⟩
    rw [show inL v lns = inN v nms by rw [inL_inN, hnms]]
    refine iteF' (by simp) ?_
    dsimp only [tNext, tSeq]
    refine ⟨t', fun H10 e10 t10 => fun H11 s11 => ?_⟩
    have e11 := e10.trans (ExtN.of s11)
    have hX11 := hX'.extN e11
    have hv11 := hv.extN e11
    obtain ⟨dx2, lt2, kd2, ga2, fs2, xs2, kvs2, hx2, _, _, _, _, _, _, _, _, _, _, _, _, no2⟩ := id hX11
    refine ⟨.ref x, rfl, x, dx2, fs2, rfl, hx2, no2, v, rfl, x, v, lns, rfl, hv11.near, hX11, ?_⟩
    cases ein : inN v nms with
    | true =>
      obtain ⟨z, rfl, hz⟩ : ∃ z, v = .str z ∧ z ∈ nms := by
        cases v with
        | str z => exact ⟨z, rfl, of_decide_eq_true ein⟩
        | _ => cases ein
      obtain ⟨gs, hgs⟩ : ∃ gs, glk (knOf [] lns) z = some gs := by
        cases e : glk (knOf [] lns) z with
        | some gs => exact ⟨gs, rfl⟩
        | none =>
          refine absurd ?_ (glk_none.mp e)
          rw [knOf_names, ← hnms]
          exact hz
      refine .inl ⟨z, gs, rfl, hgs, fun u hu => fun t ht => ?_⟩
      have s12 := same_new (o := .tup [.non, u]) ht
      have g12 : (upd H11 t (.tup [.non, u])) t = some (.tup [.non, u]) := upd_same
      generalize upd H11 t (.tup [.non, u]) = H12 at *
      refine ⟨t, _, rfl, SqT.of g12, rfl, _, _, rfl, _, _, rfl, rfl, ?_⟩
      refine ⟨.bl true, rfl, .non, rfl, rfl, rfl, _, rfl, ?_⟩
      refine iteF' (by simp) ?_
      refine ⟨.non, rfl, rfl, _, rfl, ?_⟩
      refine iteF' (by simp) ?_
      refine iteF' (by simp) ?_
      dsimp only [tNext, tSeq]
      refine ⟨.non, rfl, rfl, _, rfl, ?_⟩
      refine iteF' (by simp) ?_
      refine iteF' (by simp) ?_
      dsimp only [tNext]
      exact ⟨_, _, _, _, _, rfl, (e'.trans e11).trans (ExtN.of s12), t10.ext (s11.trans s12)⟩
    | false =>
      refine .inr ⟨by rw [inL_inN, ← hnms]; exact ein, fun d H12 s12 hd => ?_⟩
      refine ⟨true, XM.teN, fun _ a ha t ht => ?_, fun z => by cases z⟩
      have sE := same_new (o := OGX.ExV (.ref T.c_NoName) (some d) a) ha
      have sT := same_new (o := .tup [.ref a, .non]) ht
      have hA : (upd (upd H12 a (OGX.ExV (.ref T.c_NoName) (some d) a)) t (.tup [.ref a, .non])) a = some (OGX.ExV (.ref T.c_NoName) (some d) a) := sT _ _ upd_same
      have hD : (upd (upd H12 a (OGX.ExV (.ref T.c_NoName) (some d) a)) t (.tup [.ref a, .non])) d = some (.xd [("value", v)]) := sT _ _ (sE _ _ hd)
      have hTt : (upd (upd H12 a (OGX.ExV (.ref T.c_NoName) (some d) a)) t (.tup [.ref a, .non])) t = some (.tup [.ref a, .non]) := upd_same
      have sF := (s12.trans sE).trans sT
      generalize upd (upd H12 a (OGX.ExV (.ref T.c_NoName) (some d) a)) t (.tup [.ref a, .non]) = H13 at *
      have hv13 := hv11.same sF
      refine ⟨t, _, rfl, SqT.of hTt, rfl, _, _, rfl, _, _, rfl, rfl, ?_⟩
      obtain ⟨dd, sh1, sh2, sh3, sh4⟩ := hv13.shd
      refine ⟨.bl false, rfl, .ref a, rfl, rfl, rfl, _, rfl, ?_⟩
      refine iteF' (by simp) ?_
      refine ⟨.ref a, rfl, rfl, _, rfl, ?_⟩
      refine iteT' (by simp) ?_
      refine ⟨.ref a, rfl, T.c_NoName, a, d, _, v, rfl, hA, hD, XM.xfN, XM.noN, rfl, v, dd, rfl, sh1, sh2, sh3, sh4, v, rfl, v, dd, rfl, sh1, sh2, sh3, sh4, rfl, _, rfl, ?_⟩
      refine iteF' (by simp) ?_
      dsimp only [tNext, tSeq]
      refine ⟨.ref a, rfl, rfl, _, rfl, ?_⟩
      refine iteT' (by simp) ?_
      refine ⟨.ref a, rfl, a, T.c_NoName, d, _, .ref T.c_NoName, .ref T.c_NoName, true, rfl, hA, hD, XM.ecN, fun u r => r, XM.ktN, ?_⟩
      refine ⟨_, rfl, ?_⟩
      refine iteF' (by simp) ?_
      dsimp only [tNext]
      exact ⟨_, _, _, _, _, rfl, (e'.trans e11).trans (ExtN.of sF), t10.ext (s11.trans sF)⟩
  · rintro σ H' ⟨u5, u6, u7, u8, u9, rfl, e', t'⟩
    exact q H' (fun b o nb e nt => e' _ _ (kF _ _ nb e) nt) t'
end
end OG
set_option Elab.async false
set_option linter.all false
set_option maxRecDepth 100000
set_option maxHeartbeats 8000000
namespace OG
open PySem PySem.Spec PyProof.Rows L2
theorem cut_one : ∀ {ns : List Int}, ns.length ≤ 1 → cutV (ns.map V.int) none (some 1) = ns.map V.int
  | [], _ => rfl
  | [x], _ => rfl
  | _ :: _ :: _, h => by
    rw [List.length_cons, List.length_cons] at h
    omega
theorem bit_mul {c n : Int} (hn : n = 0 ∨ n = 1) (hc : c.natAbs < 2 ^ 18) : (c * n).natAbs < 2 ^ 20 := by
  rcases hn with rfl | rfl
  · rw [Int.mul_zero]
    decide
  · rw [Int.mul_one]
    exact Nat.lt_trans hc (by decide)
section
variable {P : Program} {w : World} {K : PySem.W.Frag} {mg : Str → Option Value} {base : Heap}
def spPot (K : PySem.W.Frag) : Sp := fun vs H Q _ => ∃ (a : Addr) (ns : List Int) (n : Nat), vs = [.ref a, .int (n : Int)] ∧ n ≤ 1 ∧ SqL K H a (ns.map V.int) ∧ ns.length ≤ 63 ∧ (∀ z ∈ ns, Builtin.Int.intBits z ≤ 1048576) ∧ ∀ (q : Addr) (H' : Hp), Same H H' → H q = none → Pot 900000 H' q → Q (.ref q) H'
theorem ok_l_pot (T : Txt K mg) : FnOk P w K mg base CX0 1 T.f_l_pot T.fd_l_pot ["script", "place"] (spPot K) := by
  refine T.F_l_pot.ok sc_l_pot (fun vs H Q E h => ?_) (fun cdv A outer s H vs Q E hr h => ?_)
  · obtain ⟨a, ns, n, rfl, _⟩ := h
    rfl
  · obtain ⟨a, ns, n, rfl, hn1, hS, hl, hb, q⟩ := h
    have hn01 : (n : Int) = 0 ∨ (n : Int) = 1 := by omega
    refine ⟨_, (pss_cons (ps_set (i := 2) sc_l_pot.nd rfl (Or.inl rfl) (pe_ifExp (pt_cmpR op_lt (pv 1) (pe_callB call_len_seq (by rfl) T.n_len PySem.boot_len (pa_cons (pv 0) pa_nil)) (nomark _)) (pe_ix ix_list (pv 0) (pv 1) (fun _ _ => rfl)) (pe_op op_add (pe_op op_add (pe_op op_mod (pe_callB (cr_sum rfl) (by rfl) T.n_sum (by decide +kernel) (pa_cons (pe_slice sl_list (pv 0) po_none (po_some pe_int)) pa_nil)) pe_int) (pe_op op_mulW pe_int (pv 1))) pe_int)))
  (pss_cons (ps_set (i := 3) sc_l_pot.nd rfl (Or.inl rfl) (pe_op op_mulW (pe_op op_mod (pe_callTy call_int1 (by rfl) T.n_int (by decide +kernel) (pa_cons (pe_callB call_abs (by rfl) T.n_abs (by decide +kernel) (pa_cons (pv 2) pa_nil)) pa_nil)) (pe_op op_powW (pe_op op_powW pe_int pe_int) pe_int)) (pe_callTy call_int1 (by rfl) T.n_int (by decide +kernel) (pa_cons (pe_cmpR op_ge (pe_callB call_abs (by rfl) T.n_abs (by decide +kernel) (pa_cons (pv 2) pa_nil)) (pe_op op_powW pe_int pe_int) (nomark _)) pa_nil))))
  (pss_cons (ps_set (i := 4) sc_l_pot.nd rfl (Or.inl rfl) (pe_op op_mod (pe_callTy call_int1 (by rfl) T.n_int (by decide +kernel) (pa_cons (pv 2) pa_nil)) pe_int))
  (pss_one (ps_ret (pe_lst (pa_cons (pv 3) (pa_cons (pe_op op_mod (pe_callTy call_int1 (by rfl) T.n_int (by decide +kernel) (pa_cons (pe_op op_add (pe_op op_add (pe_op op_mulW (pv 4) pe_int) (pe_op op_mulW (pe_op op_mulW pe_int (pv 1)) (pv 1))) pe_int) pa_nil)) pe_int) (pa_cons pe_int pa_nil))))))))), ?_⟩
    refine seq_fin (fun σ' H' => ∃ c : Int, σ' = [some (.ref a), some (.int (n : Int)), some (.int c), none, none] ∧ Same H H') ?_ (fun fin => ?_)
    · rintro σ' H' ⟨c, rfl, s1⟩
      refine ⟨.int c, rfl, c, rfl, .inl ⟨_, rfl, ?_⟩⟩
      refine ⟨_, _, rfl, rfl, pow_c (by decide), _, _, rfl, rfl, pow_c (by decide +kernel), _, _, rfl, rfl, (show (0 : Int) < ((10 : Int) ^ (60 : Int).toNat) ^ (5 : Int).toNat by decide +kernel), ?_⟩
      refine ⟨.int c, rfl, c, rfl, _, _, rfl, rfl, pow_c (by decide), _, _, rfl, rfl, .inr ⟨_, rfl, ?_⟩⟩
      obtain ⟨ac, hac⟩ : ∃ ac : Int, ac = (if c < 0 then -c else c) := ⟨_, rfl⟩
      rw [← hac]
      have m0 : 0 ≤ ac % ((10 : Int) ^ (60 : Int).toNat) ^ (5 : Int).toNat := Int.emod_nonneg _ (by decide +kernel)
      have m1 : ac % ((10 : Int) ^ (60 : Int).toNat) ^ (5 : Int).toNat < 2 ^ 1000 := Int.lt_trans (Int.emod_lt_of_pos _ (by decide +kernel)) (by decide +kernel)
      obtain ⟨bo, hbo⟩ : ∃ bo : Int, bo = (if decide ((10 : Int) ^ (18 : Int).toNat ≤ ac) = true then 1 else 0) := ⟨_, rfl⟩
      rw [← hbo]
      have b01 : bo = 0 ∨ bo = 1 := by
        rw [hbo]
        split
        · exact .inr rfl
        · exact .inl rfl
      have e1000 : (2 : Int) ^ 1000 = ((2 ^ 1000 : Nat) : Int) := by decide +kernel
      have key : ∀ mo : Int, 0 ≤ mo → mo < 2 ^ 1000 → mo.natAbs < 2 ^ 1000 ∧ 0 ≤ mo * bo ∧ mo * bo < 2 ^ 1000 := by
        intro mo m0 m1
        refine ⟨by omega, ?_, ?_⟩
        · rcases b01 with e | e
          · rw [e, Int.mul_zero]
            exact Int.le_refl _
          · rw [e, Int.mul_one]
            exact m0
        · rcases b01 with e | e
          · rw [e, Int.mul_zero]
            decide +kernel
          · rw [e, Int.mul_one]
            exact m1
      obtain ⟨k1, o0, o1⟩ := key _ m0 m1
      have bn : bo.natAbs < 2 ^ 2 := by omega
      have nn : (n : Int).natAbs < 2 ^ 2 := by omega
      refine ⟨_, _, rfl, rfl, wide_mul (a := 1000) (b := 2) k1 bn (by decide) (by decide) (by decide), ?_⟩
      refine ⟨.int c, rfl, .inl ⟨c, rfl, _, _, rfl, rfl, (show (0 : Int) < 2305843009213693951 by decide), ?_⟩⟩
      have p0 : 0 ≤ c % 2305843009213693951 := Int.emod_nonneg _ (by decide)
      have p1 : c % 2305843009213693951 < 2305843009213693951 := Int.emod_lt_of_pos _ (by decide)
      have e61 : (2 : Nat) ^ 61 = 2305843009213693952 := by decide
      have p2 : (c % 2305843009213693951).natAbs < 2 ^ 61 := by omega
      refine ⟨_, rfl, _, rfl, _, _, rfl, rfl, wide_mul (a := 61) (b := 20) p2 (by decide) (by decide) (by decide) (by decide), ?_⟩
      refine ⟨_, rfl, _, _, rfl, rfl, wide_mul (a := 20) (b := 2) (by decide) nn (by decide) (by decide) (by decide), _, rfl, _, _, rfl, rfl, wide_mul (a := 20) (b := 2) (bit_mul hn01 (by decide)) nn (by decide) (by decide) (by decide), ?_⟩
      refine ⟨_, _, rfl, rfl, _, _, rfl, rfl, .inl ⟨_, rfl, _, _, rfl, rfl, (show (0 : Int) < 2305843009213693921 by decide), ?_⟩⟩
      refine ⟨Nat.le_trans (show 3 ≤ 1000 by decide) (by decide), fun qa hqa => ?_⟩
      refine q qa _ (s1.trans (same_new hqa)) (s1.free hqa) ⟨_, _, _, upd_same, o0, o1, Int.emod_nonneg _ (by decide), ?_, by decide, by decide⟩
      exact Int.lt_trans (Int.emod_lt_of_pos _ (by decide)) (by decide)
    · refine ⟨.int (n : Int), rfl, .ref a, rfl, a, _, rfl, .inl hS, _, _, rfl, rfl, _, rfl, ?_⟩
      rw [List.length_map]
      refine ite2 (fun h => ?_) (fun h => ?_)
      · have h : n < ns.length := by
          have := of_decide_eq_true h
          omega
        refine ⟨.ref a, rfl, .int (n : Int), rfl, a, _, (n : Int), .int ns[n], rfl, rfl, hS, atI_nat (by rw [List.getElem?_map, List.getElem?_eq_getElem h]; rfl), ?_⟩
        exact fin _ _ ⟨_, rfl, Same.refl _⟩
      · have hle : ns.length ≤ 1 := by
          by_cases z : n < ns.length
          · exact absurd (decide_eq_true (show (n : Int) < (ns.length : Int) by omega)) h
          · omega
        refine ⟨.ref a, rfl, _, rfl, a, _, rfl, hS, fun l1 hl1 => ?_⟩
        have s1 := same_new (o := .lst (cutV (ns.map V.int) none (some 1))) hl1
        refine ⟨l1, ns, rfl, SqL.of (by rw [upd_same, cut_one hle]), _, _, rfl, rfl, (show (0 : Int) < 1000003 by decide), ?_⟩
        refine ⟨.int (n : Int), rfl, _, _, rfl, rfl, wide_mul (a := 20) (b := 2) (by decide) (show (n : Int).natAbs < 2 ^ 2 by omega) (by decide) (by decide) (by decide), _, _, rfl, rfl, _, _, rfl, rfl, ?_⟩
        exact fin _ _ ⟨_, rfl, s1⟩
/-- places of cells -/
def spCells (K : PySem.W.Frag) : Sp := fun vs H Q _ => ∃ (a : Addr) (ns : List Int), vs = [.ref a, .int 2] ∧ SqL K H a (ns.map V.int) ∧ ns.length ≤ 63 ∧ ∀ (q : Addr) (c : Nat) (H' : Hp), Same H H' → c ≤ 2 → H' q = some (.lst ((List.range c).map fun (n : Nat) => V.int (n : Int))) → Q (.ref q) H'
theorem ok_l_cells (T : Txt K mg) : FnOk P w K mg base CX0 1 T.f_l_cells T.fd_l_cells ["script", "most"] (spCells K) := by
  refine T.F_l_cells.ok sc_l_cells (fun vs H Q E h => ?_) (fun cdv A outer s H vs Q E hr h => ?_)
  · obtain ⟨a, ns, rfl, _⟩ := h
    rfl
  · obtain ⟨a, ns, rfl, hS, hl, q⟩ := h
    refine ⟨_, (pss_one (ps_ret (pe_listRg (by rfl) (by rfl) T.n_list (prg_1 (by rfl) T.n_range (pe_callB (call_max2 rfl) (by rfl) T.n_max (by decide +kernel) (pa_cons pe_int (pa_cons (pe_callB (call_min2 rfl) (by rfl) T.n_min (by decide +kernel) (pa_cons (pv 1) (pa_cons (pe_callB call_len_seq (by rfl) T.n_len PySem.boot_len (pa_cons (pv 0) pa_nil)) pa_nil))) pa_nil))))))), ?_⟩
    refine ⟨.int 2, rfl, .ref a, rfl, a, _, rfl, .inl hS, ?_⟩
    rw [List.length_map]
    obtain ⟨c, hc, ec⟩ : ∃ c : Nat, c ≤ 2 ∧ (if (if (ns.length : Int) < 2 then (ns.length : Int) else 2) > 1 then (if (ns.length : Int) < 2 then (ns.length : Int) else 2) else 1) = (c : Int) := by
      by_cases h : (ns.length : Int) < 2
      · rw [if_pos h, if_neg (by omega)]
        exact ⟨1, by decide, rfl⟩
      · rw [if_neg h, if_pos (by decide)]
        exact ⟨2, by decide, rfl⟩
    refine ⟨2, _, rfl, 1, _, rfl, _, rfl, ?_⟩
    dsimp only
    rw [ec]
    refine ⟨RgOk.of_le (by omega) (by omega) (by omega) (by omega), fun l hl => ?_⟩
    refine q l c _ (same_new hl) hc ?_
    rw [upd_same]
    unfold rgV
    rw [show ((c : Int) - 0).toNat = c by omega]
    exact congrArg (fun l => some (HO.lst l)) (List.map_congr_left fun i _ => by rw [Int.zero_add])
end
end OG
set_option Elab.async false
set_option linter.all false
set_option maxRecDepth 100000
set_option maxHeartbeats 8000000
namespace OG
open PySem PySem.Spec PyProof.Rows L2 LamX
theorem all_true : ∀ n : Nat, (List.replicate n true).all id = true
  | 0 => rfl
  | n + 1 => by
    rw [List.replicate_succ, List.all_cons, all_true n]
    rfl
theorem made_same {H : Hp} {x dx C : Addr} (hx : H x = none) (hd : H dx = none) (n : dx ≠ x) : Same H (upd (upd H dx (.own x)) x (.ins C dx [])) := fun b o e => by
  rw [upd_ne (ne_of_none e hx), upd_ne (ne_of_none e hd)]
  exact e
theorem rfl_ints {r : Int} {p : Addr} (h : 0 ≤ r) : [V.ref p, .int r] = [.ref p, .int (r.toNat : Int)] := by
  rw [Int.toNat_of_nonneg h]
section
variable {P : Program} {w : World} {K : PySem.W.Frag} {mg : Str → Option Value} {base : Heap}
def spRt9 (Pt : Addr) : Sp := fun vs H Q _ => ∃ p : Addr, vs = [.ref p] ∧ Pot 900000 H p ∧ Tabs (TT1 Pt) H ∧ ∀ H', KpN p H H' → Tabs (TT1 Pt) H' → Q (.bl true) H'
theorem ok_l_right (T : Txt K mg) (XT : TxtX K mg T) (XM : TxtM K mg T) {c Pt : Addr} (J : JAt K mg T c) (TB : TabB base mg c Pt) : OGX.FnG P w K mg base 11 T.f_l_right T.fd_l_right ["pot"] (spRt9 Pt) := by
  refine OGX.okG T.F_l_right sc_l_right (fun vs H Q E h => ?_) (fun cdv A outer s H vs Q E hG hr h => ?_)
  · obtain ⟨p, rfl, _⟩ := h
    rfl
  · obtain ⟨p, rfl, hP, hT, q⟩ := h
    refine ⟨_, (pss_cons (ps_set (i := 1) sc_l_right.nd rfl (Or.inl rfl) (pe_disp (pps_cons pe_str pe_int (pps_cons pe_str (pe_call (ok_l_book_names T) (hr.mono (by decide)) (by rfl) T.g_l_book_names T.F_l_book_names.kp T.b_l_book_names .nil pass0 (pa_cons (pv 0) (pa_cons (pe_op op_add pe_int (pe_call (ok_l_take T) (hr.mono (by decide)) (by rfl) T.g_l_take T.F_l_take.kp T.b_l_take .nil pass0 (pa_cons (pv 0) (pa_cons pe_int pa_nil)))) pa_nil))) pps_nil)) (by rfl) (by rfl) (fun z => by cases z) (by decide)))
  (pss_cons (ps_set (i := 2) sc_l_right.nd rfl (Or.inl rfl) (pe_call (ok_l_script_drawn T) (hr.mono (by decide)) (by rfl) T.g_l_script_drawn T.F_l_script_drawn.kp T.b_l_script_drawn .nil pass0 (pa_cons (pv 0) (pa_cons (pv 1) (pa_cons (pe_call (ok_l_take T) (hr.mono (by decide)) (by rfl) T.g_l_take T.F_l_take.kp T.b_l_take .nil pass0 (pa_cons (pv 0) (pa_cons pe_int pa_nil))) (pa_cons (pe_op op_add pe_int (pe_call (ok_l_take T) (hr.mono (by decide)) (by rfl) T.g_l_take T.F_l_take.kp T.b_l_take .nil pass0 (pa_cons (pv 0) (pa_cons pe_int pa_nil)))) (pa_cons (pe_cmpR op_eq (pe_call (ok_l_take T) (hr.mono (by decide)) (by rfl) T.g_l_take T.F_l_take.kp T.b_l_take .nil pass0 (pa_cons (pv 0) (pa_cons pe_int pa_nil))) pe_int (nomark _)) pa_nil)))))))
  (pss_cons (ps_par (i := 3) (j := 4) (by rfl) sc_l_right.nd rfl rfl (by decide) rfl rfl (pa_cons (pe_call (ok_l_script_text T) (hr.mono (by decide)) (by rfl) T.g_l_script_text T.F_l_script_text.kp T.b_l_script_text .nil pass0 (pa_cons (pv 2) pa_nil)) (pa_cons (pe_call (ok_l_other_lines T) (hr.mono (by decide)) (by rfl) T.g_l_other_lines T.F_l_other_lines.kp T.b_l_other_lines .nil pass0 (pa_cons (pv 0) (pa_cons (pv 2) pa_nil))) pa_nil)) (by rfl))
  (pss_cons (ps_asg (pe_tup (pa_cons (pe_make XT.mkS (ok_Script_init T XT) (hr.mono (by decide)) (by rfl) T.g_Script T.b_Script_init .nil pass0 (pa_cons (pv 3) pa_nil)) (pa_cons (pe_makeK0 XT.mkS (ok_Script_init T XT) (hr.mono (by decide)) (by rfl) T.g_Script (kn_init T.F_Script_init) pass0 (pk_cons (pv 3) pk_nil)) (pa_cons (pe_make XT.mkS (ok_Script_init T XT) (hr.mono (by decide)) (by rfl) T.g_Script T.b_Script_init .nil pass0 (pa_cons (pe_call (ok_l_script_text T) (hr.mono (by decide)) (by rfl) T.g_l_script_text T.F_l_script_text.kp T.b_l_script_text .nil pass0 (pa_cons (pv 4) pa_nil)) pa_nil)) pa_nil)))) (pg_tup (by rfl) (pgs_cons (pg_name (i := 5) sc_l_right.nd rfl (Or.inr rfl)) (pgs_cons (pg_name (i := 6) sc_l_right.nd rfl (Or.inl rfl)) (pgs_cons (pg_name (i := 7) sc_l_right.nd rfl (Or.inl rfl)) pgs_nil)))))
  (pss_cons (ps_if (PW.pt (pw_or (pt_not (pt_val (OGX.pe_callG (ok_l_is_told_right T XT XM ) hG (hr.mono (by decide)) (by rfl) T.g_l_is_told_right T.F_l_is_told_right.kp T.b_l_is_told_right (pa_cons (pv 5) (pa_cons (pv 2) pa_nil))))) (pw_or1 (pt_not (pt_val (OGX.pe_callG (ok_l_is_told_right T XT XM ) hG (hr.mono (by decide)) (by rfl) T.g_l_is_told_right T.F_l_is_told_right.kp T.b_l_is_told_right (pa_cons (pv 7) (pa_cons (pv 4) pa_nil)))))))) (pss_one (ps_ret pe_bl)) pss_nil)
  (pss_cons (ps_set (i := 8) sc_l_right.nd rfl (Or.inl rfl) (pe_cmpR op_eq (pe_call (ok_l_script_text T) (hr.mono (by decide)) (by rfl) T.g_l_script_text T.F_l_script_text.kp T.b_l_script_text .nil pass0 (pa_cons (pv 4) pa_nil)) (pv 3) (nomark _)))
  (pss_cons (ps_if (pt_cmpR op_ne (pe_callB (OGX.call_reprV hG hr.units) (by rfl) T.n_repr (by decide +kernel) (pa_cons (pe_tup (pa_cons (pe_cmpR (OGX.op_eqOwn (ok_Script_eq T XT XM) (hr.mono (by decide)) XM.eq XM.eqF T.b_Script_eq passL) (pv 5) (pv 6) (nomark _)) (pa_cons (pe_cmpR (OGX.op_neOwn (ok_Script_eq T XT XM) (hr.mono (by decide)) XM.eq XM.eqF XM.ne XM.sub T.b_Script_eq passL) (pv 5) (pv 6) (nomark _)) (pa_cons (pe_cmpR (OGX.op_eqOwn (ok_Script_eq T XT XM) (hr.mono (by decide)) XM.eq XM.eqF T.b_Script_eq passL) (pv 5) (pv 7) (nomark _)) (pa_cons (pe_cmpR (OGX.op_neOwn (ok_Script_eq T XT XM) (hr.mono (by decide)) XM.eq XM.eqF XM.ne XM.sub T.b_Script_eq passL) (pv 5) (pv 7) (nomark _)) pa_nil))))) pa_nil)) (pe_callB (OGX.call_reprV hG hr.units) (by rfl) T.n_repr (by decide +kernel) (pa_cons (pe_tup (pa_cons pe_bl (pa_cons pe_bl (pa_cons (pv 8) (pa_cons (pe_not (pv 8)) pa_nil))))) pa_nil)) (nomark _)) (pss_one (ps_ret pe_bl)) pss_nil)
  (pss_cons (ps_if (pt_val (pe_callB (cr_any rfl) (by rfl) T.n_any (by decide +kernel) (pa_cons (pe_lc (own := [("value", 9)]) (g := gName 9) (by rfl) sc_l_right.nd (pi_tup (pe_tup (pa_cons (pv 3) (pa_cons pe_non (pa_cons (pe_fld (pv 5) rfl) (pa_cons pe_int (pa_cons (pv 1) pa_nil))))))) (blkOk_by (own := [("value", 9)]) (by rfl)) (fun _ _ _ _ _ => (pg_name (i := 9) sc_l_right.nd rfl (Or.inl rfl))) (fun _ _ _ _ _ => pts_nil) (fun _ _ _ _ _ => (pe_cmpR (OGX.op_eqAnyK K (ok_Script_eq T XT XM) (hr.mono (by decide)) XM.eq XM.eqF T.b_Script_eq passL) (pv 5) (pv 9) (nomark _)))) pa_nil))) (pss_one (ps_ret pe_bl)) pss_nil)
  (pss_one (ps_ret (OGX.pe_callG (ok_l_are_values_right T XT XM J TB) hG (hr.mono (by decide)) (by rfl) T.g_l_are_values_right T.F_l_are_values_right.kp T.b_l_are_values_right (pa_cons (pv 0) (pa_cons (pv 5) (pa_cons (pv 2) pa_nil)))))))))))))), ?_⟩
    have wide : ∀ {n : Nat}, n ≤ 1000 → n ≤ sizeLine := fun h => Nat.le_trans h (by decide)
    refine fun bd hbd => ?_
    have e0 := same_new (o := .dK []) hbd
    have nbp : bd ≠ p := hP.ne hbd
    have gb0 : (upd H bd (.dK [])) bd = some (.dK []) := upd_same
    have hP0 := hP.same e0
    have hT0 := hT.ext e0
    generalize upd H bd (.dK []) = H0 at *
    have d0 : Dr p 900000 H H0 := ⟨Same.kp e0, hP0⟩
    refine ⟨.ref p, rfl, .ref p, rfl, p, 3, 899999, rfl, hP0, by decide, by decide, fun r1 H1 r1a r1b d1 => ?_⟩
    refine ⟨_, _, rfl, rfl, p, (1 + r1).toNat, 899899, rfl_ints (by omega), d1.2.mono (by decide), by omega, fun kt ks H2 nk d2 _ nkt gkt => ?_⟩
    have d12 := d1.trans d2
    have gb2 := d12.st nbp gb0
    have d2 := d0.trans d12
    obtain ⟨bkvs, hbk⟩ : ∃ b : List (Key × V), b = [(.inr "by", .int 0), (.inr "kinds", .ref kt)] := ⟨_, rfl⟩
    have lbk : bkvs.length = 2 := by
      rw [hbk]
      rfl
    refine ⟨gb2, bkvs, by rw [hbk]; rfl, by omega, ?_⟩
    have mk : mergeK [] bkvs = bkvs := by
      rw [hbk]
      exact (putK_new (kvs := [((.inr "by" : Key), V.int 0)]) _ (by rw [valV_neg (k_ne (show ¬ ("by" : Str) = "kinds" by decide +kernel))]; rfl)).trans rfl
    rw [mk]
    have vB : valV bkvs (.inr "by") = some (.int 0) := by
      rw [hbk]
      exact valV_pos rfl
    have vK : valV bkvs (.inr "kinds") = some (.ref kt) := by
      rw [hbk, valV_neg (k_ne (by decide +kernel))]
      exact valV_pos rfl
    have d3 := d2.mut (o := .dK bkvs) hbd nbp
    have gb3 : (upd H2 bd (.dK bkvs)) bd = some (.dK bkvs) := upd_same
    have gkt3 : (upd H2 bd (.dK bkvs)) kt = some (.tup (ks.map V.str)) := by
      rw [upd_ne (ne_of gkt gb2 (by intro z; cases z))]
      exact gkt
    generalize upd H2 bd (.dK bkvs) = H3 at *
    refine ⟨.ref p, rfl, .ref bd, rfl, .ref p, rfl, p, 5, 899898, rfl, d3.2.mono (by decide), by decide, by decide, fun r2 H4 r2a r2b d4 => ?_⟩
    refine ⟨.ref p, rfl, p, 20, 899897, rfl, d4.2.mono (by decide), by decide, by decide, fun r3 H5 r3a r3b d5 => ?_⟩
    refine ⟨_, _, rfl, rfl, .ref p, rfl, p, 2, 899896, rfl, d5.2.mono (by decide), by decide, by decide, fun r4 H6 r4a r4b d6 => ?_⟩
    have d36 := (d4.trans d5).trans d6
    have d6 := d3.trans d36
    obtain ⟨plain, hpl⟩ : ∃ b : Bool, b = decide (V.int r4 = V.int 0) := ⟨_, rfl⟩
    refine ⟨rfl, ?_⟩
    rw [← hpl]
    have gb6 := d36.st nbp gb3
    have gkt6 := d36.st nkt gkt3
    refine ⟨p, bd, kt, bkvs, ks, r2.toNat, (1 + r3).toNat, 890000, plain, by rw [Int.toNat_of_nonneg r2a, Int.toNat_of_nonneg (by omega)]; rfl, by omega, by omega, by omega, gb6, vB, vK, SqT.of gkt6, by rw [nk.len]; omega, by rw [nk.len]; omega, nk.is, d6.2.mono (by omega), fun lp xs lns H7 d7 _ nlp gl td L => ?_⟩
    have gb7 := d7.st nbp gb6
    have d7 := d6.trans d7
    have m0 : 1 ≤ (1 + r3).toNat := by omega
    have m20 : (1 + r3).toNat ≤ 20 := by omega
    generalize (1 + r3).toNat = m at *
    have ll := L.len
    have hne : lns ≠ [] := fun e => by
      rw [e] at ll
      simp at ll
      omega
    refine ⟨.ref lp, rfl, lp, xs, lns, rfl, SqL.of gl, td, L.fit, by omega, fun H8 s8 => ?_⟩
    have d8 := d7.sm s8
    refine ⟨.ref p, rfl, .ref lp, rfl, p, lp, xs, lns, m, 880000, rfl, s8 _ _ gl, nlp, td.mv (Same.tk s8), L, m0, m20, d8.2.mono (by decide), fun lo xo lno n' H9 d9 _ nlo glo tdo Lo n1' n21' => ?_⟩
    have gl9 := d9.st nlp (s8 _ _ gl)
    have td9 := (td.mv (Same.tk s8)).mv (d9.tk d8.2)
    have gb9 := d9.st nbp (s8 _ _ gb7)
    have d9 := d8.trans d9
    have lo1 := Lo.len
    have hno : lno ≠ [] := fun e => by
      rw [e] at lo1
      simp at lo1
      omega
    have wideL : lns.length ≤ 1000 := by omega
    have wideO : lno.length ≤ 1000 := by omega
    refine ⟨_, _, rfl, ?_⟩
    refine ⟨.str (textT lns), rfl, fun x dx hx hdx ne => ⟨x, dx, lns, H9, rfl, made_same hx hdx ne, hx, upd_same, L.ok, L.nice, hne, wideL, fun H10 s10 hX => ⟨rfl, ?_⟩⟩⟩
    refine ⟨.str (textT lns), rfl, rfl, rfl, fun y dy hy hdy ne2 => ⟨y, dy, lns, H10, rfl, made_same hy hdy ne2, hy, upd_same, L.ok, L.nice, hne, wideL, fun H11 s11 hY => ⟨rfl, ?_⟩⟩⟩
    have s911 := s10.trans s11
    refine ⟨.ref lo, rfl, lo, xo, lno, rfl, SqL.of (s911 _ _ glo), tdo.mv (Same.tk s911), Lo.fit, wideO, fun H12 s12 => ?_⟩
    refine fun z dz hz hdz ne3 => ⟨z, dz, lno, H12, rfl, made_same hz hdz ne3, hz, upd_same, Lo.ok, Lo.nice, hno, wideO, fun H13 s13 hZ => ⟨rfl, ?_⟩⟩
    refine ⟨wide (show 3 ≤ 1000 by decide), fun tt htt => ?_⟩
    have s14 := same_new (o := .tup [.ref x, .ref y, .ref z]) htt
    have gtt : (upd H13 tt (.tup [.ref x, .ref y, .ref z])) tt = some (.tup [.ref x, .ref y, .ref z]) := upd_same
    generalize upd H13 tt (.tup [.ref x, .ref y, .ref z]) = H14 at *
    have hZ := hZ.same s14
    have hY := hY.same ((s12.trans s13).trans s14)
    have hX := hX.same (((s11.trans s12).trans s13).trans s14)
    have sA := ((s911.trans s12).trans s13).trans s14
    have d14 := d9.sm sA
    have gl14 := sA _ _ gl9
    have td14 := td9.mv (Same.tk sA)
    have glo14 := sA _ _ glo
    have tdo14 := tdo.mv (Same.tk sA)
    have gb14 := sA _ _ gb9
    refine ⟨tt, _, rfl, SqT.of gtt, rfl, _, _, rfl, _, _, rfl, _, _, rfl, rfl, ?_⟩
    refine ⟨.ref x, rfl, .ref lp, rfl, x, lp, xs, lns, m, rfl, hX, gl14, td14, L, m0, by omega, fun H15 s15 => ?_⟩
    refine ⟨_, rfl, ?_⟩
    refine iteF' (by simp) ?_
    refine ⟨.ref z, rfl, .ref lo, rfl, z, lo, xo, lno, n', rfl, hZ.same s15, s15 _ _ glo14, tdo14.mv (Same.tk s15), Lo, n1', n21', fun H16 s16 => ?_⟩
    refine ⟨_, rfl, ?_⟩
    refine iteF' (by simp) ?_
    dsimp only [tNext, tSeq]
    have s516 := s15.trans s16
    refine ⟨.ref lo, rfl, lo, xo, lno, rfl, SqL.of (s516 _ _ glo14), tdo14.mv (Same.tk s516), Lo.fit, wideO, fun H17 s17 => ?_⟩
    refine ⟨.str (textT lns), rfl, rfl, ?_⟩
    obtain ⟨like, hlike⟩ : ∃ b : Bool, b = decide (V.str (textT lno) = V.str (textT lns)) := ⟨_, rfl⟩
    have hl1 : decide (textT lns = textT lno) = like := by
      rw [hlike]
      exact decide_eq_decide.mpr ⟨fun e => congrArg V.str e.symm, fun e => (V.str.inj e).symm⟩
    rw [← hlike]
    have s517 := s516.trans s17
    have hX := hX.same s517
    have hY := hY.same s517
    have hZ := hZ.same s517
    have gl := s517 _ _ gl14
    have td := td14.mv (Same.tk s517)
    have gb := s517 _ _ gb14
    have d17 := d14.sm s517
    obtain ⟨dx', lt', kd', ga', fx, xs', kvs', gx, _, fx1, fx2, glx, _⟩ := id hX
    obtain ⟨dy', _, _, _, fy, _, _, gy, _⟩ := id hY
    obtain ⟨dz', _, _, _, fz, _, _, gz, _⟩ := id hZ
    refine ⟨.ref x, rfl, .ref y, rfl, x, dx', fx, rfl, gx, .inl ⟨y, dy', fy, rfl, gy⟩, x, .ref y, lns, rfl, hX, .inl ⟨y, lns, rfl, hY, _, rfl, ?_⟩⟩
    rw [decide_eq_true rfl]
    refine ⟨.ref x, rfl, .ref y, rfl, x, dx', fx, y, dy', fy, rfl, rfl, gx, gy, x, .ref y, lns, rfl, hX, .inl ⟨y, lns, rfl, hY, _, rfl, ?_⟩⟩
    rw [decide_eq_true rfl]
    refine ⟨.ref x, rfl, .ref z, rfl, x, dx', fx, rfl, gx, .inl ⟨z, dz', fz, rfl, gz⟩, x, .ref z, lns, rfl, hX, .inl ⟨z, lno, rfl, hZ, _, rfl, ?_⟩⟩
    rw [hl1]
    refine ⟨.ref x, rfl, .ref z, rfl, x, dx', fx, z, dz', fz, rfl, rfl, gx, gz, x, .ref z, lns, rfl, hX, .inl ⟨z, lno, rfl, hZ, _, rfl, ?_⟩⟩
    rw [hl1]
    have td4 : ∀ {HH : Hp}, TdAll K HH [.bl true, .bl false, .bl like, .bl (!like)] [.bool true, .bool false, .bool like, .bool (!like)] := .cons (.bl _) (.cons (.bl _) (.cons (.bl _) (.cons (.bl _) .nil)))
    have sh4 : Sho (.tuple [.bool true, .bool false, .bool like, .bool (!like)]) 10 := sho_tup (n := 0) (fun d hd => by
      simp only [List.mem_cons, List.mem_nil_iff, or_false] at hd
      rcases hd with rfl | rfl | rfl | rfl <;> exact sho_bl _) (by show 1 * 4 ≤ 10; decide)
    have la4 : (PyData.tuple [.bool true, .bool false, .bool like, .bool (!like)]).canLay0 = true := by simp [PyData.canLay0, PyData.canLayAll0]
    have de4 : (PyData.tuple [.bool true, .bool false, .bool like, .bool (!like)]).depth ≤ 60 := by simp [PyData.depth, PyData.depthAll]
    refine ⟨wide (show 4 ≤ 1000 by decide), fun ta hta => ?_⟩
    have s18 := same_new (o := .tup [.bl true, .bl (!true), .bl like, .bl (!like)]) hta
    refine ⟨.ref ta, .tuple [.bool true, .bool false, .bool like, .bool (!like)], rfl, .inl ⟨(Td.tup (SqT.of upd_same) td4).dp, sh4.nd⟩, sh4.sh, de4, sho_fits sh4 (by decide) la4 de4, ?_⟩
    refine ⟨.bl like, rfl, .bl like, rfl, like, rfl, wide (show 4 ≤ 1000 by decide), fun tb htb => ?_⟩
    have s19 := s18.trans (same_new (o := .tup [.bl true, .bl false, .bl like, .bl (!like)]) htb)
    refine ⟨.ref tb, .tuple [.bool true, .bool false, .bool like, .bool (!like)], rfl, .inl ⟨(Td.tup (SqT.of upd_same) td4).dp, sh4.nd⟩, sh4.sh, de4, sho_fits sh4 (by decide) la4 de4, ?_⟩
    refine ⟨rfl, _, rfl, ?_⟩
    refine iteF' (by simp) ?_
    dsimp only [tNext, tSeq]
    generalize upd (upd H17 ta (.tup [.bl true, .bl (!true), .bl like, .bl (!like)])) tb (.tup [.bl true, .bl false, .bl like, .bl (!like)]) = H18 at *
    have hX := hX.same s19
    have gx := s19 _ _ gx
    have glx := s19 _ _ glx
    have gb := s19 _ _ gb
    refine ⟨.str (textT lns), rfl, .ref x, rfl, x, T.c_Script, dx', fx, _, rfl, gx, XT.cl, XT.na2, fx2, .ref bd, rfl, wide (show 5 ≤ 1000 by decide), fun tu htu => ?_⟩
    have s20 := same_new (o := .tup [.str (textT lns), .non, .ref lt', .int 0, .ref bd]) htu
    have gtu : (upd H18 tu (.tup [.str (textT lns), .non, .ref lt', .int 0, .ref bd])) tu = some (.tup [.str (textT lns), .non, .ref lt', .int 0, .ref bd]) := upd_same
    generalize upd H18 tu (.tup [.str (textT lns), .non, .ref lt', .int 0, .ref bd]) = H20 at *
    have hX := hX.same s20
    have gx := s20 _ _ gx
    have glx := s20 _ _ glx
    have gb := s20 _ _ gb
    refine ⟨tu, rfl, ⟨_, SqT.of gtu⟩, fun D hD => ?_⟩
    refine lc_mapT (K := K) (fun _ => .bl false) (by show 5 ≤ 10000; decide) hD (SqT.of gtu) (fun _ => rfl) (fun _ _ _ q => q) (fun v H' Q hv s q => ?_) (fun H21 s21 g21 => ?_)
    · have hX' := hX.same s
      have no : ∃ t, t ∈ ["str", "NoneType", "int", "dict", "tuple"] ∧ OGX.OthT H' v t ∧ NoScr H' v := by
        simp only [List.mem_cons, List.mem_nil_iff, or_false] at hv
        rcases hv with rfl | rfl | rfl | rfl | rfl
        · exact ⟨"str", by simp, .str _, .inl ⟨_, rfl⟩⟩
        · exact ⟨"NoneType", by simp, .non, .inr (.inl rfl)⟩
        · exact ⟨"tuple", by simp, .tup (s _ _ glx), .inr (.inr (.inr (.inr ⟨_, _, rfl, s _ _ glx⟩)))⟩
        · exact ⟨"int", by simp, .int _, .inr (.inr (.inl ⟨_, rfl⟩))⟩
        · exact ⟨"dict", by simp, .dK (s _ _ gb), .inr (.inr (.inr (.inl ⟨_, _, rfl, s _ _ gb⟩)))⟩
      obtain ⟨t, ht, ho, hn⟩ := no
      exact ⟨.ref x, rfl, v, rfl, x, dx', fx, rfl, s _ _ gx, .inr ⟨t, ho, XM.nf t ht⟩, x, v, lns, rfl, hX', .inr ⟨hn, false, rfl, q _ (Same.refl _)⟩⟩
    refine ⟨D, [false, false, false, false, false], rfl, SqL.of g21, ?_⟩
    refine ⟨_, rfl, ?_⟩
    refine iteF' (by simp) ?_
    dsimp only [tNext]
    have sZ := (s19.trans s20).trans s21
    have d21 := d17.sm sZ
    refine ⟨.ref p, rfl, .ref x, rfl, .ref lp, rfl, p, x, lp, m, 800000, xs, lns, rfl, d21.2.mono (by decide), hX.same s21, sZ _ _ gl, nlp, td.mv (Same.tk sZ), L, m0, m20, tabs_kp hT hP.lst d21.1, fun H22 k22 t22 => ?_⟩
    exact q H22 (fun b o n e nt => k22 _ _ n (d21.1 _ _ n e) nt) t22
end
end OG
set_option Elab.async false
set_option linter.all false
set_option maxRecDepth 100000
set_option maxHeartbeats 8000000
namespace OG
open PySem PySem.Spec PyProof.Rows L2 LamX
section
variable {P : Program} {w : World} {K : PySem.W.Frag} {mg : Str → Option Value} {base : Heap}
def spLaw9 (K : PySem.W.Frag) (Pt : Addr) : Sp := fun vs H Q _ => ∃ (a : Addr) (ns : List Int), vs = [.ref a] ∧ SqL K H a (ns.map V.int) ∧ ns.length ≤ 63 ∧ (∀ z ∈ ns, Builtin.Int.intBits z ≤ 1048576) ∧ Tabs (TT1 Pt) H ∧ ∀ H', Q (.bl true) H'
theorem ok_law (T : Txt K mg) (XT : TxtX K mg T) (XM : TxtM K mg T) {c Pt : Addr} (J : JAt K mg T c) (TB : TabB base mg c Pt) : OGX.FnG P w K mg base 12 T.f_law T.fd_law ["script"] (spLaw9 K Pt) := by
  refine OGX.okG T.F_law sc_law (fun vs H Q E h => ?_) (fun cdv A outer s H vs Q E hG hr h => ?_)
  · obtain ⟨a, ns, rfl, _⟩ := h
    rfl
  · obtain ⟨a, ns, rfl, hS, hl, hb, hT, q⟩ := h
    refine ⟨_, (pss_one (ps_ret (pe_callB (cr_all rfl) (by rfl) T.n_all (by decide +kernel) (pa_cons (pe_lc (own := [("place", 1)]) (g := gName 1) (by rfl) sc_law.nd (pi_list (pe_call (ok_l_cells T) (hr.mono (by decide)) (by rfl) T.g_l_cells T.F_l_cells.kp T.b_l_cells .nil pass0 (pa_cons (pv 0) (pa_cons pe_int pa_nil)))) (blkOk_by (own := [("place", 1)]) (by rfl)) (fun _ _ _ _ _ => (pg_name (i := 1) sc_law.nd rfl (Or.inl rfl))) (fun _ _ _ _ _ => pts_nil) (fun _ _ _ _ _ => (OGX.pe_callG (ok_l_right T XT XM J TB) hG (hr.mono (by decide)) (by rfl) T.g_l_right T.F_l_right.kp T.b_l_right (pa_cons (pe_call (ok_l_pot T) (hr.mono (by decide)) (by rfl) T.g_l_pot T.F_l_pot.kp T.b_l_pot .nil pass0 (pa_cons (pv 0) (pa_cons (pv 1) pa_nil))) pa_nil)))) pa_nil)))), ?_⟩
    refine ⟨.ref a, rfl, a, ns, rfl, hS, hl, fun qc c H1 s1 hc gq => ?_⟩
    refine ⟨qc, rfl, ⟨_, SqL.of gq⟩, fun D hD => ?_⟩
    have nq : qc ≠ D := ne_of_none gq hD
    have ext : ∀ {H1 H2 : Hp} {b : Addr} {xs : List V}, ExtN H1 H2 → H1 b = some (.lst xs) → H2 b = some (.lst xs) := fun e h => e _ _ h fun _ z => by cases z
    refine lc_list (K := K) (a := qc) (xs := (List.range c).map fun (n : Nat) => V.int (n : Int)) (fun i H' => ExtN H1 H' ∧ H' D = some (.lst ((List.replicate i true).map V.bl)) ∧ Tabs (TT1 Pt) H')
      ⟨ExtN.of (same_new hD), upd_same, (hT.ext s1).ext (same_new hD)⟩ (fun i H' _ ⟨s, _⟩ => SqL.of (ext s gq)) ?_ ?_
    · rintro i u H' hu ⟨s, g3, t3⟩
      obtain ⟨hi, rfl⟩ := range_at hu
      refine ⟨rfl, ?_⟩
      refine ⟨.ref a, rfl, .int (i : Int), rfl, a, ns, i, rfl, by omega, SqL.extN hS ((ExtN.of s1).trans s), hl, hb, fun pp H2 s2 np hP => ?_⟩
      refine ⟨pp, rfl, hP, t3.ext s2, fun H3 k3 t4 => ?_⟩
      have k : ∀ {b : Addr} {o : HO}, H' b = some o → (∀ ps, o ≠ .tbl ps) → H3 b = some o := fun {b o} e n => k3 b o (ne_of_none e np) (s2 _ _ e) n
      have g5 := k g3 fun _ z => by cases z
      refine ⟨_, g5, by rw [List.length_map, List.length_replicate]; exact small1000 (by omega), fun b o e n => ?_, ?_, ?_⟩
      · rw [upd_ne (ne_of_none e hD)]
        exact k (s _ _ e n) n
      · rw [upd_same, List.replicate_succ', List.map_append]
        rfl
      · exact tabs_kp t4 ⟨_, g5⟩ kp_self
    · rintro H' ⟨s, g3, _⟩
      refine ⟨D, _, rfl, SqL.of g3, ?_⟩
      rw [all_true]
      exact q H'
end
end OG
set_option Elab.async false
set_option linter.all false
set_option maxRecDepth 100000
set_option maxHeartbeats 0
namespace OG
open PySem PySem.Spec PyProof.Rows L2 LamX
theorem kit_ref {K : PySem.W.Frag} {C D : Addr} {b : Bool} (n : C ≠ D) (h1 : PySem.W.isClsIn K D = true) (h2 : PySem.W.typeIn K (.ref D) = some (.type "type")) (h3 : PySem.W.subIn K (.ref C) (.ref D) = some b) : PySem.W.kitOne K (.ref C) (.ref D) = some b := by
  unfold PySem.W.kitOne
  rw [if_neg (by simp [n])]
  show (if ((PySem.W.clsIn K D).isSome && PySem.W.typeIn K (.ref D) == some (.type "type")) = true then PySem.W.subIn K (.ref C) (.ref D) else none) = some b
  rw [show (PySem.W.clsIn K D).isSome = true from h1, h2, if_pos (by simp), h3]
theorem all_mk {l : PySem.W.OpenLaw} {w : World} {K : PySem.W.Frag} {h : Heap} {mg : Str → Option Value} {fa P1 : Addr} (X : K.In h) (G : h.Ns mainGlobals mg) (hfa : mg "law" = some (.ref fa))
    (hP1 : h.get? P1 = some { cls := .none, data := .fields #[] })
    {c_NoName c_GateError c_BadScript c_Script aP cJ1 NnNoName f_GateError_init f_integer_of f_is_letters f_is_line_name f_gate_of f_factor_of f_is_of f_read_line f_read_form f_read_gates f_read_one f_read_road f_read_product f_read_close f_read_turn f_read_add f_ascending f_Script_init f_Script_len f_Script_contains f_Script_eq f_Script_gates_of f_read_script f_l_pot f_l_take f_l_of f_l_some f_l_cells f_l_heard f_l_num f_l_book_names f_l_script_line_gates f_l_script_gates f_l_script_width f_l_script_factor_text f_l_script_line_text f_l_script_text f_l_script_name f_l_script_factor_drawn f_l_script_simple f_l_script_some f_l_script_try f_l_script_size f_l_script_drawn f_l_odd f_l_bent f_l_is_told_right f_l_other_lines f_l_are_values_right f_l_right f_law : Addr}
    {dP ddNoName od_GateError_init od_integer_of od_is_letters od_is_line_name od_gate_of od_factor_of od_is_of od_read_line od_read_form od_read_gates od_read_one od_read_road od_read_product od_read_close od_read_turn od_read_add od_ascending od_Script_init od_Script_len od_Script_contains od_Script_eq od_Script_gates_of od_read_script od_l_pot od_l_take od_l_of od_l_some od_l_cells od_l_heard od_l_num od_l_book_names od_l_script_line_gates od_l_script_gates od_l_script_width od_l_script_factor_text od_l_script_line_text od_l_script_text od_l_script_name od_l_script_factor_drawn od_l_script_simple od_l_script_some od_l_script_try od_l_script_size od_l_script_drawn od_l_odd od_l_bent od_l_is_told_right od_l_other_lines od_l_are_values_right od_l_right od_law an_GateError_init an_integer_of an_is_letters an_is_line_name an_gate_of an_factor_of an_is_of an_read_line an_read_form an_read_gates an_read_one an_read_road an_read_product an_read_close an_read_turn an_read_add an_ascending an_Script_init an_Script_len an_Script_contains an_Script_eq an_Script_gates_of an_read_script an_l_pot an_l_take an_l_of an_l_some an_l_cells an_l_heard an_l_num an_l_book_names an_l_script_line_gates an_l_script_gates an_l_script_width an_l_script_factor_text an_l_script_line_text an_l_script_text an_l_script_name an_l_script_factor_drawn an_l_script_simple an_l_script_some an_l_script_try an_l_script_size an_l_script_drawn an_l_odd an_l_bent an_l_is_told_right an_l_other_lines an_l_are_values_right an_l_right an_law : Option Addr}
    {slP sl_GateError_init sl_integer_of sl_is_letters sl_is_line_name sl_gate_of sl_factor_of sl_is_of sl_read_line sl_read_form sl_read_gates sl_read_one sl_read_road sl_read_product sl_read_close sl_read_turn sl_read_add sl_ascending sl_Script_init sl_Script_len sl_Script_contains sl_Script_eq sl_Script_gates_of sl_read_script sl_l_pot sl_l_take sl_l_of sl_l_some sl_l_cells sl_l_heard sl_l_num sl_l_book_names sl_l_script_line_gates sl_l_script_gates sl_l_script_width sl_l_script_factor_text sl_l_script_line_text sl_l_script_text sl_l_script_name sl_l_script_factor_drawn sl_l_script_simple sl_l_script_some sl_l_script_try sl_l_script_size sl_l_script_drawn sl_l_odd sl_l_bent sl_l_is_told_right sl_l_other_lines sl_l_are_values_right sl_l_right sl_law : Array (Option Value)}
    {oc_GateError_init kV_GateError_init dc_GateError_init pm_GateError_init ct_GateError_init cd_GateError_init oc_integer_of kV_integer_of dc_integer_of pm_integer_of ct_integer_of cd_integer_of oc_is_letters kV_is_letters dc_is_letters pm_is_letters ct_is_letters cd_is_letters oc_is_line_name kV_is_line_name dc_is_line_name pm_is_line_name ct_is_line_name cd_is_line_name oc_gate_of kV_gate_of dc_gate_of pm_gate_of ct_gate_of cd_gate_of oc_factor_of kV_factor_of dc_factor_of pm_factor_of ct_factor_of cd_factor_of oc_is_of kV_is_of dc_is_of pm_is_of ct_is_of cd_is_of oc_read_line kV_read_line dc_read_line pm_read_line ct_read_line cd_read_line oc_read_form kV_read_form dc_read_form pm_read_form ct_read_form cd_read_form oc_read_gates kV_read_gates dc_read_gates pm_read_gates ct_read_gates cd_read_gates oc_read_one kV_read_one dc_read_one pm_read_one ct_read_one cd_read_one oc_read_road kV_read_road dc_read_road pm_read_road ct_read_road cd_read_road oc_read_product kV_read_product dc_read_product pm_read_product ct_read_product cd_read_product oc_read_close kV_read_close dc_read_close pm_read_close ct_read_close cd_read_close oc_read_turn kV_read_turn dc_read_turn pm_read_turn ct_read_turn cd_read_turn oc_read_add kV_read_add dc_read_add pm_read_add ct_read_add cd_read_add oc_ascending kV_ascending dc_ascending pm_ascending ct_ascending cd_ascending oc_Script_init kV_Script_init dc_Script_init pm_Script_init ct_Script_init cd_Script_init oc_Script_len kV_Script_len dc_Script_len pm_Script_len ct_Script_len cd_Script_len oc_Script_contains kV_Script_contains dc_Script_contains pm_Script_contains ct_Script_contains cd_Script_contains oc_Script_eq kV_Script_eq dc_Script_eq pm_Script_eq ct_Script_eq cd_Script_eq oc_Script_gates_of kV_Script_gates_of dc_Script_gates_of pm_Script_gates_of ct_Script_gates_of cd_Script_gates_of oc_read_script kV_read_script dc_read_script pm_read_script ct_read_script cd_read_script oc_l_pot kV_l_pot dc_l_pot pm_l_pot ct_l_pot cd_l_pot oc_l_take kV_l_take dc_l_take pm_l_take ct_l_take cd_l_take oc_l_of kV_l_of dc_l_of pm_l_of ct_l_of cd_l_of oc_l_some kV_l_some dc_l_some pm_l_some ct_l_some cd_l_some oc_l_cells kV_l_cells dc_l_cells pm_l_cells ct_l_cells cd_l_cells oc_l_heard kV_l_heard dc_l_heard pm_l_heard ct_l_heard cd_l_heard oc_l_num kV_l_num dc_l_num pm_l_num ct_l_num cd_l_num oc_l_book_names kV_l_book_names dc_l_book_names pm_l_book_names ct_l_book_names cd_l_book_names oc_l_script_line_gates kV_l_script_line_gates dc_l_script_line_gates pm_l_script_line_gates ct_l_script_line_gates cd_l_script_line_gates oc_l_script_gates kV_l_script_gates dc_l_script_gates pm_l_script_gates ct_l_script_gates cd_l_script_gates oc_l_script_width kV_l_script_width dc_l_script_width pm_l_script_width ct_l_script_width cd_l_script_width oc_l_script_factor_text kV_l_script_factor_text dc_l_script_factor_text pm_l_script_factor_text ct_l_script_factor_text cd_l_script_factor_text oc_l_script_line_text kV_l_script_line_text dc_l_script_line_text pm_l_script_line_text ct_l_script_line_text cd_l_script_line_text oc_l_script_text kV_l_script_text dc_l_script_text pm_l_script_text ct_l_script_text cd_l_script_text oc_l_script_name kV_l_script_name dc_l_script_name pm_l_script_name ct_l_script_name cd_l_script_name oc_l_script_factor_drawn kV_l_script_factor_drawn dc_l_script_factor_drawn pm_l_script_factor_drawn ct_l_script_factor_drawn cd_l_script_factor_drawn oc_l_script_simple kV_l_script_simple dc_l_script_simple pm_l_script_simple ct_l_script_simple cd_l_script_simple oc_l_script_some kV_l_script_some dc_l_script_some pm_l_script_some ct_l_script_some cd_l_script_some oc_l_script_try kV_l_script_try dc_l_script_try pm_l_script_try ct_l_script_try cd_l_script_try oc_l_script_size kV_l_script_size dc_l_script_size pm_l_script_size ct_l_script_size cd_l_script_size oc_l_script_drawn kV_l_script_drawn dc_l_script_drawn pm_l_script_drawn ct_l_script_drawn cd_l_script_drawn oc_l_odd kV_l_odd dc_l_odd pm_l_odd ct_l_odd cd_l_odd oc_l_bent kV_l_bent dc_l_bent pm_l_bent ct_l_bent cd_l_bent oc_l_is_told_right kV_l_is_told_right dc_l_is_told_right pm_l_is_told_right ct_l_is_told_right cd_l_is_told_right oc_l_other_lines kV_l_other_lines dc_l_other_lines pm_l_other_lines ct_l_other_lines cd_l_other_lines oc_l_are_values_right kV_l_are_values_right dc_l_are_values_right pm_l_are_values_right ct_l_are_values_right oc_l_right kV_l_right dc_l_right pm_l_right ct_l_right cd_l_right oc_law kV_law dc_law pm_law ct_law cd_law : Value}
    {t_LETTERS t_FIGURES t_MOST_FIGURES : Tok} {uP : Array Value} {nP : Nat}
    {nmNoName qnNoName : Str} {bsNoName : List Value} {snNoName : List Str} {subNoName : List Value} {abNoName : Bool} {colNoName : Option Bool} {x0NoName x1NoName x2NoName x3NoName x5NoName : Option Value}
    (a_NoName : PySem.W.nsIn K mainGlobals "NoName" = some (some (.ref c_NoName)))
    (a_BadScript : PySem.W.nsIn K mainGlobals "BadScript" = some (some (.ref c_BadScript)))
    (a_GateError : PySem.W.nsIn K mainGlobals "GateError" = some (some (.ref c_GateError)))
    (a_Script : PySem.W.nsIn K mainGlobals "Script" = some (some (.ref c_Script)))
    (a_GateError_init : PySem.W.findIn K (.ref c_GateError) "__init__" = some (some (.ref f_GateError_init)))
    (l_GateError_init : K.lookup f_GateError_init = some ⟨oc_GateError_init, od_GateError_init, .func (PySem.W.fnOf "__init__" "GateError.__init__" (defArgs s_GateError_init) (defBody s_GateError_init) (defScope s_GateError_init) .none kV_GateError_init dc_GateError_init pm_GateError_init an_GateError_init cd_GateError_init ct_GateError_init), sl_GateError_init⟩)
    (c_GateError_init : PySem.W.codeIn K cd_GateError_init "GateError.__init__" = true)
    (k_GateError_init : PySem.W.keepIn K (.ref f_GateError_init) = true)
    (a_integer_of : PySem.W.nsIn K mainGlobals "integer_of" = some (some (.ref f_integer_of)))
    (l_integer_of : K.lookup f_integer_of = some ⟨oc_integer_of, od_integer_of, .func (PySem.W.fnOf "integer_of" "integer_of" (defArgs s_integer_of) (defBody s_integer_of) (defScope s_integer_of) .none kV_integer_of dc_integer_of pm_integer_of an_integer_of cd_integer_of ct_integer_of), sl_integer_of⟩)
    (c_integer_of : PySem.W.codeIn K cd_integer_of "integer_of" = true)
    (k_integer_of : PySem.W.keepIn K (.ref f_integer_of) = true)
    (a_is_letters : PySem.W.nsIn K mainGlobals "is_letters" = some (some (.ref f_is_letters)))
    (l_is_letters : K.lookup f_is_letters = some ⟨oc_is_letters, od_is_letters, .func (PySem.W.fnOf "is_letters" "is_letters" (defArgs s_is_letters) (defBody s_is_letters) (defScope s_is_letters) .none kV_is_letters dc_is_letters pm_is_letters an_is_letters cd_is_letters ct_is_letters), sl_is_letters⟩)
    (c_is_letters : PySem.W.codeIn K cd_is_letters "is_letters" = true)
    (k_is_letters : PySem.W.keepIn K (.ref f_is_letters) = true)
    (a_is_line_name : PySem.W.nsIn K mainGlobals "is_line_name" = some (some (.ref f_is_line_name)))
    (l_is_line_name : K.lookup f_is_line_name = some ⟨oc_is_line_name, od_is_line_name, .func (PySem.W.fnOf "is_line_name" "is_line_name" (defArgs s_is_line_name) (defBody s_is_line_name) (defScope s_is_line_name) .none kV_is_line_name dc_is_line_name pm_is_line_name an_is_line_name cd_is_line_name ct_is_line_name), sl_is_line_name⟩)
    (c_is_line_name : PySem.W.codeIn K cd_is_line_name "is_line_name" = true)
    (k_is_line_name : PySem.W.keepIn K (.ref f_is_line_name) = true)
    (a_gate_of : PySem.W.nsIn K mainGlobals "gate_of" = some (some (.ref f_gate_of)))
    (l_gate_of : K.lookup f_gate_of = some ⟨oc_gate_of, od_gate_of, .func (PySem.W.fnOf "gate_of" "gate_of" (defArgs s_gate_of) (defBody s_gate_of) (defScope s_gate_of) .none kV_gate_of dc_gate_of pm_gate_of an_gate_of cd_gate_of ct_gate_of), sl_gate_of⟩)
    (c_gate_of : PySem.W.codeIn K cd_gate_of "gate_of" = true)
    (k_gate_of : PySem.W.keepIn K (.ref f_gate_of) = true)
    (a_factor_of : PySem.W.nsIn K mainGlobals "factor_of" = some (some (.ref f_factor_of)))
    (l_factor_of : K.lookup f_factor_of = some ⟨oc_factor_of, od_factor_of, .func (PySem.W.fnOf "factor_of" "factor_of" (defArgs s_factor_of) (defBody s_factor_of) (defScope s_factor_of) .none kV_factor_of dc_factor_of pm_factor_of an_factor_of cd_factor_of ct_factor_of), sl_factor_of⟩)
    (c_factor_of : PySem.W.codeIn K cd_factor_of "factor_of" = true)
    (k_factor_of : PySem.W.keepIn K (.ref f_factor_of) = true)
    (a_is_of : PySem.W.nsIn K mainGlobals "_is_of" = some (some (.ref f_is_of)))
    (l_is_of : K.lookup f_is_of = some ⟨oc_is_of, od_is_of, .func (PySem.W.fnOf "_is_of" "_is_of" (defArgs s_is_of) (defBody s_is_of) (defScope s_is_of) .none kV_is_of dc_is_of pm_is_of an_is_of cd_is_of ct_is_of), sl_is_of⟩)
    (c_is_of : PySem.W.codeIn K cd_is_of "_is_of" = true)
    (k_is_of : PySem.W.keepIn K (.ref f_is_of) = true)
    (a_read_line : PySem.W.nsIn K mainGlobals "read_line" = some (some (.ref f_read_line)))
    (l_read_line : K.lookup f_read_line = some ⟨oc_read_line, od_read_line, .func (PySem.W.fnOf "read_line" "read_line" (defArgs s_read_line) (defBody s_read_line) (defScope s_read_line) .none kV_read_line dc_read_line pm_read_line an_read_line cd_read_line ct_read_line), sl_read_line⟩)
    (c_read_line : PySem.W.codeIn K cd_read_line "read_line" = true)
    (k_read_line : PySem.W.keepIn K (.ref f_read_line) = true)
    (a_read_form : PySem.W.nsIn K mainGlobals "read_form" = some (some (.ref f_read_form)))
    (l_read_form : K.lookup f_read_form = some ⟨oc_read_form, od_read_form, .func (PySem.W.fnOf "read_form" "read_form" (defArgs s_read_form) (defBody s_read_form) (defScope s_read_form) .none kV_read_form dc_read_form pm_read_form an_read_form cd_read_form ct_read_form), sl_read_form⟩)
    (c_read_form : PySem.W.codeIn K cd_read_form "read_form" = true)
    (k_read_form : PySem.W.keepIn K (.ref f_read_form) = true)
    (a_read_gates : PySem.W.nsIn K mainGlobals "read_gates" = some (some (.ref f_read_gates)))
    (l_read_gates : K.lookup f_read_gates = some ⟨oc_read_gates, od_read_gates, .func (PySem.W.fnOf "read_gates" "read_gates" (defArgs s_read_gates) (defBody s_read_gates) (defScope s_read_gates) .none kV_read_gates dc_read_gates pm_read_gates an_read_gates cd_read_gates ct_read_gates), sl_read_gates⟩)
    (c_read_gates : PySem.W.codeIn K cd_read_gates "read_gates" = true)
    (k_read_gates : PySem.W.keepIn K (.ref f_read_gates) = true)
    (a_read_one : PySem.W.nsIn K mainGlobals "_read_one" = some (some (.ref f_read_one)))
    (l_read_one : K.lookup f_read_one = some ⟨oc_read_one, od_read_one, .func (PySem.W.fnOf "_read_one" "_read_one" (defArgs s_read_one) (defBody s_read_one) (defScope s_read_one) .none kV_read_one dc_read_one pm_read_one an_read_one cd_read_one ct_read_one), sl_read_one⟩)
    (c_read_one : PySem.W.codeIn K cd_read_one "_read_one" = true)
    (k_read_one : PySem.W.keepIn K (.ref f_read_one) = true)
    (a_read_road : PySem.W.nsIn K mainGlobals "_read_road" = some (some (.ref f_read_road)))
    (l_read_road : K.lookup f_read_road = some ⟨oc_read_road, od_read_road, .func (PySem.W.fnOf "_read_road" "_read_road" (defArgs s_read_road) (defBody s_read_road) (defScope s_read_road) .none kV_read_road dc_read_road pm_read_road an_read_road cd_read_road ct_read_road), sl_read_road⟩)
    (c_read_road : PySem.W.codeIn K cd_read_road "_read_road" = true)
    (k_read_road : PySem.W.keepIn K (.ref f_read_road) = true)
    (a_read_product : PySem.W.nsIn K mainGlobals "_read_product" = some (some (.ref f_read_product)))
    (l_read_product : K.lookup f_read_product = some ⟨oc_read_product, od_read_product, .func (PySem.W.fnOf "_read_product" "_read_product" (defArgs s_read_product) (defBody s_read_product) (defScope s_read_product) .none kV_read_product dc_read_product pm_read_product an_read_product cd_read_product ct_read_product), sl_read_product⟩)
    (c_read_product : PySem.W.codeIn K cd_read_product "_read_product" = true)
    (k_read_product : PySem.W.keepIn K (.ref f_read_product) = true)
    (a_read_close : PySem.W.nsIn K mainGlobals "_read_close" = some (some (.ref f_read_close)))
    (l_read_close : K.lookup f_read_close = some ⟨oc_read_close, od_read_close, .func (PySem.W.fnOf "_read_close" "_read_close" (defArgs s_read_close) (defBody s_read_close) (defScope s_read_close) .none kV_read_close dc_read_close pm_read_close an_read_close cd_read_close ct_read_close), sl_read_close⟩)
    (c_read_close : PySem.W.codeIn K cd_read_close "_read_close" = true)
    (k_read_close : PySem.W.keepIn K (.ref f_read_close) = true)
    (a_read_turn : PySem.W.nsIn K mainGlobals "_read_turn" = some (some (.ref f_read_turn)))
    (l_read_turn : K.lookup f_read_turn = some ⟨oc_read_turn, od_read_turn, .func (PySem.W.fnOf "_read_turn" "_read_turn" (defArgs s_read_turn) (defBody s_read_turn) (defScope s_read_turn) .none kV_read_turn dc_read_turn pm_read_turn an_read_turn cd_read_turn ct_read_turn), sl_read_turn⟩)
    (c_read_turn : PySem.W.codeIn K cd_read_turn "_read_turn" = true)
    (k_read_turn : PySem.W.keepIn K (.ref f_read_turn) = true)
    (a_read_add : PySem.W.nsIn K mainGlobals "_read_add" = some (some (.ref f_read_add)))
    (l_read_add : K.lookup f_read_add = some ⟨oc_read_add, od_read_add, .func (PySem.W.fnOf "_read_add" "_read_add" (defArgs s_read_add) (defBody s_read_add) (defScope s_read_add) .none kV_read_add dc_read_add pm_read_add an_read_add cd_read_add ct_read_add), sl_read_add⟩)
    (c_read_add : PySem.W.codeIn K cd_read_add "_read_add" = true)
    (k_read_add : PySem.W.keepIn K (.ref f_read_add) = true)
    (a_ascending : PySem.W.nsIn K mainGlobals "_ascending" = some (some (.ref f_ascending)))
    (l_ascending : K.lookup f_ascending = some ⟨oc_ascending, od_ascending, .func (PySem.W.fnOf "_ascending" "_ascending" (defArgs s_ascending) (defBody s_ascending) (defScope s_ascending) .none kV_ascending dc_ascending pm_ascending an_ascending cd_ascending ct_ascending), sl_ascending⟩)
    (c_ascending : PySem.W.codeIn K cd_ascending "_ascending" = true)
    (k_ascending : PySem.W.keepIn K (.ref f_ascending) = true)
    (a_Script_init : PySem.W.findIn K (.ref c_Script) "__init__" = some (some (.ref f_Script_init)))
    (l_Script_init : K.lookup f_Script_init = some ⟨oc_Script_init, od_Script_init, .func (PySem.W.fnOf "__init__" "Script.__init__" (defArgs s_Script_init) (defBody s_Script_init) (defScope s_Script_init) .none kV_Script_init dc_Script_init pm_Script_init an_Script_init cd_Script_init ct_Script_init), sl_Script_init⟩)
    (c_Script_init : PySem.W.codeIn K cd_Script_init "Script.__init__" = true)
    (k_Script_init : PySem.W.keepIn K (.ref f_Script_init) = true)
    (a_Script_len : PySem.W.findIn K (.ref c_Script) "__len__" = some (some (.ref f_Script_len)))
    (l_Script_len : K.lookup f_Script_len = some ⟨oc_Script_len, od_Script_len, .func (PySem.W.fnOf "__len__" "Script.__len__" (defArgs s_Script_len) (defBody s_Script_len) (defScope s_Script_len) .none kV_Script_len dc_Script_len pm_Script_len an_Script_len cd_Script_len ct_Script_len), sl_Script_len⟩)
    (c_Script_len : PySem.W.codeIn K cd_Script_len "Script.__len__" = true)
    (k_Script_len : PySem.W.keepIn K (.ref f_Script_len) = true)
    (a_Script_contains : PySem.W.findIn K (.ref c_Script) "__contains__" = some (some (.ref f_Script_contains)))
    (l_Script_contains : K.lookup f_Script_contains = some ⟨oc_Script_contains, od_Script_contains, .func (PySem.W.fnOf "__contains__" "Script.__contains__" (defArgs s_Script_contains) (defBody s_Script_contains) (defScope s_Script_contains) .none kV_Script_contains dc_Script_contains pm_Script_contains an_Script_contains cd_Script_contains ct_Script_contains), sl_Script_contains⟩)
    (c_Script_contains : PySem.W.codeIn K cd_Script_contains "Script.__contains__" = true)
    (k_Script_contains : PySem.W.keepIn K (.ref f_Script_contains) = true)
    (a_Script_eq : PySem.W.findIn K (.ref c_Script) "__eq__" = some (some (.ref f_Script_eq)))
    (l_Script_eq : K.lookup f_Script_eq = some ⟨oc_Script_eq, od_Script_eq, .func (PySem.W.fnOf "__eq__" "Script.__eq__" (defArgs s_Script_eq) (defBody s_Script_eq) (defScope s_Script_eq) .none kV_Script_eq dc_Script_eq pm_Script_eq an_Script_eq cd_Script_eq ct_Script_eq), sl_Script_eq⟩)
    (c_Script_eq : PySem.W.codeIn K cd_Script_eq "Script.__eq__" = true)
    (k_Script_eq : PySem.W.keepIn K (.ref f_Script_eq) = true)
    (a_Script_gates_of : PySem.W.findIn K (.ref c_Script) "gates_of" = some (some (.ref f_Script_gates_of)))
    (l_Script_gates_of : K.lookup f_Script_gates_of = some ⟨oc_Script_gates_of, od_Script_gates_of, .func (PySem.W.fnOf "gates_of" "Script.gates_of" (defArgs s_Script_gates_of) (defBody s_Script_gates_of) (defScope s_Script_gates_of) .none kV_Script_gates_of dc_Script_gates_of pm_Script_gates_of an_Script_gates_of cd_Script_gates_of ct_Script_gates_of), sl_Script_gates_of⟩)
    (c_Script_gates_of : PySem.W.codeIn K cd_Script_gates_of "Script.gates_of" = true)
    (k_Script_gates_of : PySem.W.keepIn K (.ref f_Script_gates_of) = true)
    (a_read_script : PySem.W.nsIn K mainGlobals "_read_script" = some (some (.ref f_read_script)))
    (l_read_script : K.lookup f_read_script = some ⟨oc_read_script, od_read_script, .func (PySem.W.fnOf "_read_script" "_read_script" (defArgs s_read_script) (defBody s_read_script) (defScope s_read_script) .none kV_read_script dc_read_script pm_read_script an_read_script cd_read_script ct_read_script), sl_read_script⟩)
    (c_read_script : PySem.W.codeIn K cd_read_script "_read_script" = true)
    (k_read_script : PySem.W.keepIn K (.ref f_read_script) = true)
    (a_l_pot : PySem.W.nsIn K mainGlobals "_law_pot" = some (some (.ref f_l_pot)))
    (l_l_pot : K.lookup f_l_pot = some ⟨oc_l_pot, od_l_pot, .func (PySem.W.fnOf "_law_pot" "_law_pot" (defArgs s_l_pot) (defBody s_l_pot) (defScope s_l_pot) .none kV_l_pot dc_l_pot pm_l_pot an_l_pot cd_l_pot ct_l_pot), sl_l_pot⟩)
    (c_l_pot : PySem.W.codeIn K cd_l_pot "_law_pot" = true)
    (k_l_pot : PySem.W.keepIn K (.ref f_l_pot) = true)
    (a_l_take : PySem.W.nsIn K mainGlobals "_law_take" = some (some (.ref f_l_take)))
    (l_l_take : K.lookup f_l_take = some ⟨oc_l_take, od_l_take, .func (PySem.W.fnOf "_law_take" "_law_take" (defArgs s_l_take) (defBody s_l_take) (defScope s_l_take) .none kV_l_take dc_l_take pm_l_take an_l_take cd_l_take ct_l_take), sl_l_take⟩)
    (c_l_take : PySem.W.codeIn K cd_l_take "_law_take" = true)
    (k_l_take : PySem.W.keepIn K (.ref f_l_take) = true)
    (a_l_of : PySem.W.nsIn K mainGlobals "_law_of" = some (some (.ref f_l_of)))
    (l_l_of : K.lookup f_l_of = some ⟨oc_l_of, od_l_of, .func (PySem.W.fnOf "_law_of" "_law_of" (defArgs s_l_of) (defBody s_l_of) (defScope s_l_of) .none kV_l_of dc_l_of pm_l_of an_l_of cd_l_of ct_l_of), sl_l_of⟩)
    (c_l_of : PySem.W.codeIn K cd_l_of "_law_of" = true)
    (k_l_of : PySem.W.keepIn K (.ref f_l_of) = true)
    (a_l_some : PySem.W.nsIn K mainGlobals "_law_some" = some (some (.ref f_l_some)))
    (l_l_some : K.lookup f_l_some = some ⟨oc_l_some, od_l_some, .func (PySem.W.fnOf "_law_some" "_law_some" (defArgs s_l_some) (defBody s_l_some) (defScope s_l_some) .none kV_l_some dc_l_some pm_l_some an_l_some cd_l_some ct_l_some), sl_l_some⟩)
    (c_l_some : PySem.W.codeIn K cd_l_some "_law_some" = true)
    (k_l_some : PySem.W.keepIn K (.ref f_l_some) = true)
    (a_l_cells : PySem.W.nsIn K mainGlobals "_law_cells" = some (some (.ref f_l_cells)))
    (l_l_cells : K.lookup f_l_cells = some ⟨oc_l_cells, od_l_cells, .func (PySem.W.fnOf "_law_cells" "_law_cells" (defArgs s_l_cells) (defBody s_l_cells) (defScope s_l_cells) .none kV_l_cells dc_l_cells pm_l_cells an_l_cells cd_l_cells ct_l_cells), sl_l_cells⟩)
    (c_l_cells : PySem.W.codeIn K cd_l_cells "_law_cells" = true)
    (k_l_cells : PySem.W.keepIn K (.ref f_l_cells) = true)
    (a_l_heard : PySem.W.nsIn K mainGlobals "_law_heard" = some (some (.ref f_l_heard)))
    (l_l_heard : K.lookup f_l_heard = some ⟨oc_l_heard, od_l_heard, .func (PySem.W.fnOf "_law_heard" "_law_heard" (defArgs s_l_heard) (defBody s_l_heard) (defScope s_l_heard) .none kV_l_heard dc_l_heard pm_l_heard an_l_heard cd_l_heard ct_l_heard), sl_l_heard⟩)
    (c_l_heard : PySem.W.codeIn K cd_l_heard "_law_heard" = true)
    (k_l_heard : PySem.W.keepIn K (.ref f_l_heard) = true)
    (a_l_num : PySem.W.nsIn K mainGlobals "_law_num" = some (some (.ref f_l_num)))
    (l_l_num : K.lookup f_l_num = some ⟨oc_l_num, od_l_num, .func (PySem.W.fnOf "_law_num" "_law_num" (defArgs s_l_num) (defBody s_l_num) (defScope s_l_num) .none kV_l_num dc_l_num pm_l_num an_l_num cd_l_num ct_l_num), sl_l_num⟩)
    (c_l_num : PySem.W.codeIn K cd_l_num "_law_num" = true)
    (k_l_num : PySem.W.keepIn K (.ref f_l_num) = true)
    (a_l_book_names : PySem.W.nsIn K mainGlobals "_law_book_names" = some (some (.ref f_l_book_names)))
    (l_l_book_names : K.lookup f_l_book_names = some ⟨oc_l_book_names, od_l_book_names, .func (PySem.W.fnOf "_law_book_names" "_law_book_names" (defArgs s_l_book_names) (defBody s_l_book_names) (defScope s_l_book_names) .none kV_l_book_names dc_l_book_names pm_l_book_names an_l_book_names cd_l_book_names ct_l_book_names), sl_l_book_names⟩)
    (c_l_book_names : PySem.W.codeIn K cd_l_book_names "_law_book_names" = true)
    (k_l_book_names : PySem.W.keepIn K (.ref f_l_book_names) = true)
    (a_l_script_line_gates : PySem.W.nsIn K mainGlobals "_law_script_line_gates" = some (some (.ref f_l_script_line_gates)))
    (l_l_script_line_gates : K.lookup f_l_script_line_gates = some ⟨oc_l_script_line_gates, od_l_script_line_gates, .func (PySem.W.fnOf "_law_script_line_gates" "_law_script_line_gates" (defArgs s_l_script_line_gates) (defBody s_l_script_line_gates) (defScope s_l_script_line_gates) .none kV_l_script_line_gates dc_l_script_line_gates pm_l_script_line_gates an_l_script_line_gates cd_l_script_line_gates ct_l_script_line_gates), sl_l_script_line_gates⟩)
    (c_l_script_line_gates : PySem.W.codeIn K cd_l_script_line_gates "_law_script_line_gates" = true)
    (k_l_script_line_gates : PySem.W.keepIn K (.ref f_l_script_line_gates) = true)
    (a_l_script_gates : PySem.W.nsIn K mainGlobals "_law_script_gates" = some (some (.ref f_l_script_gates)))
    (l_l_script_gates : K.lookup f_l_script_gates = some ⟨oc_l_script_gates, od_l_script_gates, .func (PySem.W.fnOf "_law_script_gates" "_law_script_gates" (defArgs s_l_script_gates) (defBody s_l_script_gates) (defScope s_l_script_gates) .none kV_l_script_gates dc_l_script_gates pm_l_script_gates an_l_script_gates cd_l_script_gates ct_l_script_gates), sl_l_script_gates⟩)
    (c_l_script_gates : PySem.W.codeIn K cd_l_script_gates "_law_script_gates" = true)
    (k_l_script_gates : PySem.W.keepIn K (.ref f_l_script_gates) = true)
    (a_l_script_width : PySem.W.nsIn K mainGlobals "_law_script_width" = some (some (.ref f_l_script_width)))
    (l_l_script_width : K.lookup f_l_script_width = some ⟨oc_l_script_width, od_l_script_width, .func (PySem.W.fnOf "_law_script_width" "_law_script_width" (defArgs s_l_script_width) (defBody s_l_script_width) (defScope s_l_script_width) .none kV_l_script_width dc_l_script_width pm_l_script_width an_l_script_width cd_l_script_width ct_l_script_width), sl_l_script_width⟩)
    (c_l_script_width : PySem.W.codeIn K cd_l_script_width "_law_script_width" = true)
    (k_l_script_width : PySem.W.keepIn K (.ref f_l_script_width) = true)
    (a_l_script_factor_text : PySem.W.nsIn K mainGlobals "_law_script_factor_text" = some (some (.ref f_l_script_factor_text)))
    (l_l_script_factor_text : K.lookup f_l_script_factor_text = some ⟨oc_l_script_factor_text, od_l_script_factor_text, .func (PySem.W.fnOf "_law_script_factor_text" "_law_script_factor_text" (defArgs s_l_script_factor_text) (defBody s_l_script_factor_text) (defScope s_l_script_factor_text) .none kV_l_script_factor_text dc_l_script_factor_text pm_l_script_factor_text an_l_script_factor_text cd_l_script_factor_text ct_l_script_factor_text), sl_l_script_factor_text⟩)
    (c_l_script_factor_text : PySem.W.codeIn K cd_l_script_factor_text "_law_script_factor_text" = true)
    (k_l_script_factor_text : PySem.W.keepIn K (.ref f_l_script_factor_text) = true)
    (a_l_script_line_text : PySem.W.nsIn K mainGlobals "_law_script_line_text" = some (some (.ref f_l_script_line_text)))
    (l_l_script_line_text : K.lookup f_l_script_line_text = some ⟨oc_l_script_line_text, od_l_script_line_text, .func (PySem.W.fnOf "_law_script_line_text" "_law_script_line_text" (defArgs s_l_script_line_text) (defBody s_l_script_line_text) (defScope s_l_script_line_text) .none kV_l_script_line_text dc_l_script_line_text pm_l_script_line_text an_l_script_line_text cd_l_script_line_text ct_l_script_line_text), sl_l_script_line_text⟩)
    (c_l_script_line_text : PySem.W.codeIn K cd_l_script_line_text "_law_script_line_text" = true)
    (k_l_script_line_text : PySem.W.keepIn K (.ref f_l_script_line_text) = true)
    (a_l_script_text : PySem.W.nsIn K mainGlobals "_law_script_text" = some (some (.ref f_l_script_text)))
    (l_l_script_text : K.lookup f_l_script_text = some ⟨oc_l_script_text, od_l_script_text, .func (PySem.W.fnOf "_law_script_text" "_law_script_text" (defArgs s_l_script_text) (defBody s_l_script_text) (defScope s_l_script_text) .none kV_l_script_text dc_l_script_text pm_l_script_text an_l_script_text cd_l_script_text ct_l_script_text), sl_l_script_text⟩)
    (c_l_script_text : PySem.W.codeIn K cd_l_script_text "_law_script_text" = true)
    (k_l_script_text : PySem.W.keepIn K (.ref f_l_script_text) = true)
    (a_l_script_name : PySem.W.nsIn K mainGlobals "_law_script_name" = some (some (.ref f_l_script_name)))
    (l_l_script_name : K.lookup f_l_script_name = some ⟨oc_l_script_name, od_l_script_name, .func (PySem.W.fnOf "_law_script_name" "_law_script_name" (defArgs s_l_script_name) (defBody s_l_script_name) (defScope s_l_script_name) .none kV_l_script_name dc_l_script_name pm_l_script_name an_l_script_name cd_l_script_name ct_l_script_name), sl_l_script_name⟩)
    (c_l_script_name : PySem.W.codeIn K cd_l_script_name "_law_script_name" = true)
    (k_l_script_name : PySem.W.keepIn K (.ref f_l_script_name) = true)
    (a_l_script_factor_drawn : PySem.W.nsIn K mainGlobals "_law_script_factor_drawn" = some (some (.ref f_l_script_factor_drawn)))
    (l_l_script_factor_drawn : K.lookup f_l_script_factor_drawn = some ⟨oc_l_script_factor_drawn, od_l_script_factor_drawn, .func (PySem.W.fnOf "_law_script_factor_drawn" "_law_script_factor_drawn" (defArgs s_l_script_factor_drawn) (defBody s_l_script_factor_drawn) (defScope s_l_script_factor_drawn) .none kV_l_script_factor_drawn dc_l_script_factor_drawn pm_l_script_factor_drawn an_l_script_factor_drawn cd_l_script_factor_drawn ct_l_script_factor_drawn), sl_l_script_factor_drawn⟩)
    (c_l_script_factor_drawn : PySem.W.codeIn K cd_l_script_factor_drawn "_law_script_factor_drawn" = true)
    (k_l_script_factor_drawn : PySem.W.keepIn K (.ref f_l_script_factor_drawn) = true)
    (a_l_script_simple : PySem.W.nsIn K mainGlobals "_law_script_simple" = some (some (.ref f_l_script_simple)))
    (l_l_script_simple : K.lookup f_l_script_simple = some ⟨oc_l_script_simple, od_l_script_simple, .func (PySem.W.fnOf "_law_script_simple" "_law_script_simple" (defArgs s_l_script_simple) (defBody s_l_script_simple) (defScope s_l_script_simple) .none kV_l_script_simple dc_l_script_simple pm_l_script_simple an_l_script_simple cd_l_script_simple ct_l_script_simple), sl_l_script_simple⟩)
    (c_l_script_simple : PySem.W.codeIn K cd_l_script_simple "_law_script_simple" = true)
    (k_l_script_simple : PySem.W.keepIn K (.ref f_l_script_simple) = true)
    (a_l_script_some : PySem.W.nsIn K mainGlobals "_law_script_some" = some (some (.ref f_l_script_some)))
    (l_l_script_some : K.lookup f_l_script_some = some ⟨oc_l_script_some, od_l_script_some, .func (PySem.W.fnOf "_law_script_some" "_law_script_some" (defArgs s_l_script_some) (defBody s_l_script_some) (defScope s_l_script_some) .none kV_l_script_some dc_l_script_some pm_l_script_some an_l_script_some cd_l_script_some ct_l_script_some), sl_l_script_some⟩)
    (c_l_script_some : PySem.W.codeIn K cd_l_script_some "_law_script_some" = true)
    (k_l_script_some : PySem.W.keepIn K (.ref f_l_script_some) = true)
    (a_l_script_try : PySem.W.nsIn K mainGlobals "_law_script_try" = some (some (.ref f_l_script_try)))
    (l_l_script_try : K.lookup f_l_script_try = some ⟨oc_l_script_try, od_l_script_try, .func (PySem.W.fnOf "_law_script_try" "_law_script_try" (defArgs s_l_script_try) (defBody s_l_script_try) (defScope s_l_script_try) .none kV_l_script_try dc_l_script_try pm_l_script_try an_l_script_try cd_l_script_try ct_l_script_try), sl_l_script_try⟩)
    (c_l_script_try : PySem.W.codeIn K cd_l_script_try "_law_script_try" = true)
    (k_l_script_try : PySem.W.keepIn K (.ref f_l_script_try) = true)
    (a_l_script_size : PySem.W.nsIn K mainGlobals "_law_script_size" = some (some (.ref f_l_script_size)))
    (l_l_script_size : K.lookup f_l_script_size = some ⟨oc_l_script_size, od_l_script_size, .func (PySem.W.fnOf "_law_script_size" "_law_script_size" (defArgs s_l_script_size) (defBody s_l_script_size) (defScope s_l_script_size) .none kV_l_script_size dc_l_script_size pm_l_script_size an_l_script_size cd_l_script_size ct_l_script_size), sl_l_script_size⟩)
    (c_l_script_size : PySem.W.codeIn K cd_l_script_size "_law_script_size" = true)
    (k_l_script_size : PySem.W.keepIn K (.ref f_l_script_size) = true)
    (a_l_script_drawn : PySem.W.nsIn K mainGlobals "_law_script_drawn" = some (some (.ref f_l_script_drawn)))
    (l_l_script_drawn : K.lookup f_l_script_drawn = some ⟨oc_l_script_drawn, od_l_script_drawn, .func (PySem.W.fnOf "_law_script_drawn" "_law_script_drawn" (defArgs s_l_script_drawn) (defBody s_l_script_drawn) (defScope s_l_script_drawn) .none kV_l_script_drawn dc_l_script_drawn pm_l_script_drawn an_l_script_drawn cd_l_script_drawn ct_l_script_drawn), sl_l_script_drawn⟩)
    (c_l_script_drawn : PySem.W.codeIn K cd_l_script_drawn "_law_script_drawn" = true)
    (k_l_script_drawn : PySem.W.keepIn K (.ref f_l_script_drawn) = true)
    (a_l_odd : PySem.W.nsIn K mainGlobals "_law_odd" = some (some (.ref f_l_odd)))
    (l_l_odd : K.lookup f_l_odd = some ⟨oc_l_odd, od_l_odd, .func (PySem.W.fnOf "_law_odd" "_law_odd" (defArgs s_l_odd) (defBody s_l_odd) (defScope s_l_odd) .none kV_l_odd dc_l_odd pm_l_odd an_l_odd cd_l_odd ct_l_odd), sl_l_odd⟩)
    (c_l_odd : PySem.W.codeIn K cd_l_odd "_law_odd" = true)
    (k_l_odd : PySem.W.keepIn K (.ref f_l_odd) = true)
    (a_l_bent : PySem.W.nsIn K mainGlobals "_law_bent" = some (some (.ref f_l_bent)))
    (l_l_bent : K.lookup f_l_bent = some ⟨oc_l_bent, od_l_bent, .func (PySem.W.fnOf "_law_bent" "_law_bent" (defArgs s_l_bent) (defBody s_l_bent) (defScope s_l_bent) .none kV_l_bent dc_l_bent pm_l_bent an_l_bent cd_l_bent ct_l_bent), sl_l_bent⟩)
    (c_l_bent : PySem.W.codeIn K cd_l_bent "_law_bent" = true)
    (k_l_bent : PySem.W.keepIn K (.ref f_l_bent) = true)
    (a_l_is_told_right : PySem.W.nsIn K mainGlobals "_law_is_told_right" = some (some (.ref f_l_is_told_right)))
    (l_l_is_told_right : K.lookup f_l_is_told_right = some ⟨oc_l_is_told_right, od_l_is_told_right, .func (PySem.W.fnOf "_law_is_told_right" "_law_is_told_right" (defArgs s_l_is_told_right) (defBody s_l_is_told_right) (defScope s_l_is_told_right) .none kV_l_is_told_right dc_l_is_told_right pm_l_is_told_right an_l_is_told_right cd_l_is_told_right ct_l_is_told_right), sl_l_is_told_right⟩)
    (c_l_is_told_right : PySem.W.codeIn K cd_l_is_told_right "_law_is_told_right" = true)
    (k_l_is_told_right : PySem.W.keepIn K (.ref f_l_is_told_right) = true)
    (a_l_other_lines : PySem.W.nsIn K mainGlobals "_law_other_lines" = some (some (.ref f_l_other_lines)))
    (l_l_other_lines : K.lookup f_l_other_lines = some ⟨oc_l_other_lines, od_l_other_lines, .func (PySem.W.fnOf "_law_other_lines" "_law_other_lines" (defArgs s_l_other_lines) (defBody s_l_other_lines) (defScope s_l_other_lines) .none kV_l_other_lines dc_l_other_lines pm_l_other_lines an_l_other_lines cd_l_other_lines ct_l_other_lines), sl_l_other_lines⟩)
    (c_l_other_lines : PySem.W.codeIn K cd_l_other_lines "_law_other_lines" = true)
    (k_l_other_lines : PySem.W.keepIn K (.ref f_l_other_lines) = true)
    (a_l_are_values_right : PySem.W.nsIn K mainGlobals "_law_are_values_right" = some (some (.ref f_l_are_values_right)))
    (l_l_are_values_right : K.lookup f_l_are_values_right = some ⟨oc_l_are_values_right, od_l_are_values_right, .func (PySem.W.fnOf "_law_are_values_right" "_law_are_values_right" (defArgs s_l_are_values_right) (defBody s_l_are_values_right) (defScope s_l_are_values_right) .none kV_l_are_values_right dc_l_are_values_right pm_l_are_values_right an_l_are_values_right (.ref cJ1) ct_l_are_values_right), sl_l_are_values_right⟩)
    (c_l_are_values_right : PySem.W.codeIn K (.ref cJ1) "_law_are_values_right" = true)
    (k_l_are_values_right : PySem.W.keepIn K (.ref f_l_are_values_right) = true)
    (a_l_right : PySem.W.nsIn K mainGlobals "_law_right" = some (some (.ref f_l_right)))
    (l_l_right : K.lookup f_l_right = some ⟨oc_l_right, od_l_right, .func (PySem.W.fnOf "_law_right" "_law_right" (defArgs s_l_right) (defBody s_l_right) (defScope s_l_right) .none kV_l_right dc_l_right pm_l_right an_l_right cd_l_right ct_l_right), sl_l_right⟩)
    (c_l_right : PySem.W.codeIn K cd_l_right "_law_right" = true)
    (k_l_right : PySem.W.keepIn K (.ref f_l_right) = true)
    (a_law : PySem.W.nsIn K mainGlobals "law" = some (some (.ref f_law)))
    (l_law : K.lookup f_law = some ⟨oc_law, od_law, .func (PySem.W.fnOf "law" "law" (defArgs s_law) (defBody s_law) (defScope s_law) .none kV_law dc_law pm_law an_law cd_law ct_law), sl_law⟩)
    (c_law : PySem.W.codeIn K cd_law "law" = true)
    (k_law : PySem.W.keepIn K (.ref f_law) = true)
    (n_ValueError : PySem.W.nsIn K mainGlobals "ValueError" = some none)
    (n_abs : PySem.W.nsIn K mainGlobals "abs" = some none)
    (n_all : PySem.W.nsIn K mainGlobals "all" = some none)
    (n_any : PySem.W.nsIn K mainGlobals "any" = some none)
    (n_bool : PySem.W.nsIn K mainGlobals "bool" = some none)
    (n_enumerate : PySem.W.nsIn K mainGlobals "enumerate" = some none)
    (n_int : PySem.W.nsIn K mainGlobals "int" = some none)
    (n_isinstance : PySem.W.nsIn K mainGlobals "isinstance" = some none)
    (n_len : PySem.W.nsIn K mainGlobals "len" = some none)
    (n_list : PySem.W.nsIn K mainGlobals "list" = some none)
    (n_max : PySem.W.nsIn K mainGlobals "max" = some none)
    (n_min : PySem.W.nsIn K mainGlobals "min" = some none)
    (n_range : PySem.W.nsIn K mainGlobals "range" = some none)
    (n_repr : PySem.W.nsIn K mainGlobals "repr" = some none)
    (n_set : PySem.W.nsIn K mainGlobals "set" = some none)
    (n_sorted : PySem.W.nsIn K mainGlobals "sorted" = some none)
    (n_str : PySem.W.nsIn K mainGlobals "str" = some none)
    (n_sum : PySem.W.nsIn K mainGlobals "sum" = some none)
    (n_tuple : PySem.W.nsIn K mainGlobals "tuple" = some none)
    (n_zip : PySem.W.nsIn K mainGlobals "zip" = some none)
    (m_LETTERS : PySem.W.nsIn K mainGlobals "LETTERS" = some (some (.str "abcdefghijklmnopqrstuvwxyz" t_LETTERS)))
    (m_FIGURES : PySem.W.nsIn K mainGlobals "FIGURES" = some (some (.str "0123456789" t_FIGURES)))
    (m_MOST_FIGURES : PySem.W.nsIn K mainGlobals "MOST_FIGURES" = some (some (.int 1000 t_MOST_FIGURES)))
    (m_NO_NAMES : PySem.W.nsIn K mainGlobals "NO_NAMES" = some (some (.ref aP)))
    (l_NO_NAMES : K.lookup aP = some ⟨.type "tuple", dP, .seq uP nP, slP⟩)
    (v_NO_NAMES : Vals ((["script", "around", "one", "road", "close", "turn", "add"] : List Str).map V.str) uP.toList)
    (z_NO_NAMES : uP.size ≤ 1000)
    (m_gcd : PySem.W.nsIn K mainGlobals "gcd" = some (some (.builtin "math.gcd")))
    (xL_NoName : K.lookup c_NoName = some (excClassObj nmNoName qnNoName c_NoName NnNoName bsNoName [.ref c_GateError, .type "ValueError", .type "Exception", .type "BaseException", .type "object"] true snNoName subNoName abNoName colNoName ddNoName x0NoName x1NoName x2NoName x3NoName x5NoName "ValueError.__new__"))
    (e_saNoName : PySem.W.findIn K (.ref c_NoName) "__setattr__" = some (some (.builtin "object.__setattr__")))
    (e_exNoName : PySem.W.subIn K (.ref c_NoName) (.type "BaseException") = some true)
    (e_tyNoName : PySem.W.typeIn K (.ref c_NoName) = some (.type "type"))
    (e_kpNoName : PySem.W.keepIn K (.ref c_NoName) = true)
    (e_inNoName : PySem.W.findIn K (.ref c_NoName) "__init__" = some (some (.ref f_GateError_init)))
    (e_noNoName : PySem.W.findIn K (.ref c_NoName) "value" = some none)
    (e_tI : PySem.W.typeIn K (.ref f_GateError_init) = some (.type "function"))
    (e_hn : PySem.W.specialIn K (.builtin "object.__class__") "__get__" = some (some (.builtin "getset_descriptor.__get__")))
    (e_ht : PySem.W.takesIn K (.builtin "object.__class__") = some true)
    (g_ex : PySem.W.subIn K (.ref c_GateError) (.type "BaseException") = some true)
    (g_hd : PySem.W.hasDictIn K c_GateError = true)
    (g_ty : PySem.W.typeIn K (.ref c_GateError) = some (.type "type"))
    (o_gaNoName : PySem.W.findIn K (.ref c_NoName) "__getattribute__" = some (some (.builtin "BaseException.__getattribute__")))
    (o_ggNoName : PySem.W.findIn K (.ref c_NoName) "__getattr__" = some none)
    (o_hdNoName : PySem.W.hasDictIn K c_NoName = true)
    (o_haNoName : PySem.W.findIn K (.ref c_NoName) "__class__" = some (some (.builtin "object.__class__")))
    (o_hmNoName : PySem.W.mroIn K c_NoName (.type "object") = some true)
    (o_sbNoName : PySem.W.subIn K (.ref c_NoName) (.ref c_GateError) = some true)
    (o_icNoName : PySem.W.isClsIn K c_NoName = true)
    (b_ic : PySem.W.isClsIn K c_Script = true)
    (b_ty : PySem.W.typeIn K (.ref c_Script) = some (.type "type"))
    (b_sstr : PySem.W.subIn K (.type "str") (.ref c_Script) = some false)
    (b_sNoneType : PySem.W.subIn K (.type "NoneType") (.ref c_Script) = some false)
    (b_sint : PySem.W.subIn K (.type "int") (.ref c_Script) = some false)
    (b_sdict : PySem.W.subIn K (.type "dict") (.ref c_Script) = some false)
    (b_stuple : PySem.W.subIn K (.type "tuple") (.ref c_Script) = some false)
    (b_pg : PySem.W.plainGet K c_Script Str.empty = true)
    (b_hd : PySem.W.hasDictIn K c_Script = true)
    (b_po : PySem.W.plainOver K c_Script = true)
    (b_sa : PySem.W.findIn K (.ref c_Script) "__setattr__" = some (some (.builtin "object.__setattr__")))
    (b_mk : PySem.W.makesIn K c_Script = true)
    (b_kp : PySem.W.keepIn K (.ref c_Script) = true)
    (b_n1 : PySem.W.findIn K (.ref c_Script) "text" = some none)
    (b_n2 : PySem.W.findIn K (.ref c_Script) "lines" = some none)
    (b_n3 : PySem.W.findIn K (.ref c_Script) "gates" = some none)
    (b_n4 : PySem.W.findIn K (.ref c_Script) "width" = some none)
    (b_n5 : PySem.W.findIn K (.ref c_Script) "is_plain" = some none)
    (b_n6 : PySem.W.findIn K (.ref c_Script) "_gates_by_name" = some none)
    (b_ca : PySem.W.findIn K (.ref c_Script) "__class__" = some (some (.builtin "object.__class__")))
    (b_ob : PySem.W.mroIn K c_Script (.type "object") = some true)
    (b_ne : PySem.W.findIn K (.ref c_Script) "__ne__" = some (some (.builtin "object.__ne__")))
    (b_su : PySem.W.subIn K (.ref c_Script) (.type "object") = some true)
    (fn_Script_init : PySem.W.isFn K (.ref f_Script_init) = true)
    (fn_Script_len : PySem.W.isFn K (.ref f_Script_len) = true)
    (fn_Script_contains : PySem.W.isFn K (.ref f_Script_contains) = true)
    (fn_Script_eq : PySem.W.isFn K (.ref f_Script_eq) = true)
    (fn_Script_gates_of : PySem.W.isFn K (.ref f_Script_gates_of) = true)
    (j_hd1 : PySem.W.codeHdIn K cJ1 P1 = true)
    (j_no1 : K.lookup P1 = none)
    : ∃ (fd : FuncData) (sp : Sp) (Ts : List (Addr × Addr)), (∀ t ∈ Ts, h.get? t.2 = some { cls := .none, data := .fields #[] }) ∧ (∀ t ∈ Ts, K.lookup t.2 = none) ∧ (∀ t ∈ Ts, PySem.W.CodeHd h t.1 t.2) ∧ (∀ (s : Shared) (u : Value), BindsTo s fd ⟨[u], []⟩ [("script", u)]) ∧
      (∀ (H : Hp) (a : Addr) (ns : List Int), ns.length ≤ 63 → (∀ z ∈ ns, Builtin.Int.intBits z ≤ 1048576) → (∀ t ∈ Ts, H t.2 = some (.tbl #[])) → SqL K H a (ns.map V.int) → sp [.ref a] H (fun v _ => v = .bl true) E0) ∧
      ∀ base : Heap, K.In base → base.Ns mainGlobals mg → (∀ t ∈ Ts, TabB base mg t.1 t.2) → OGX.FnG l.prog w K mg base 12 fa fd ["script"] sp := by
  have e := hfa.symm.trans (PySem.W.mg_of X G a_law)
  cases e
  have F_GateError_init := fun_mk (st := s_GateError_init) l_GateError_init c_GateError_init k_GateError_init
  have b_GateError_init := F_GateError_init.binds (ps := ["self", "value"]) fun _ _ _ _ _ _ us hl => match us, hl with | [_, _], _ => rfl
  have F_integer_of := fun_mk (st := s_integer_of) l_integer_of c_integer_of k_integer_of
  have b_integer_of := F_integer_of.binds (ps := ["word", "most"]) fun _ _ _ _ _ _ us hl => match us, hl with | [_, _], _ => rfl
  have F_is_letters := fun_mk (st := s_is_letters) l_is_letters c_is_letters k_is_letters
  have b_is_letters := F_is_letters.binds (ps := ["word", "most"]) fun _ _ _ _ _ _ us hl => match us, hl with | [_, _], _ => rfl
  have F_is_line_name := fun_mk (st := s_is_line_name) l_is_line_name c_is_line_name k_is_line_name
  have b_is_line_name := F_is_line_name.binds (ps := ["word"]) fun _ _ _ _ _ _ us hl => match us, hl with | [_], _ => rfl
  have F_gate_of := fun_mk (st := s_gate_of) l_gate_of c_gate_of k_gate_of
  have b_gate_of := F_gate_of.binds (ps := ["word"]) fun _ _ _ _ _ _ us hl => match us, hl with | [_], _ => rfl
  have F_factor_of := fun_mk (st := s_factor_of) l_factor_of c_factor_of k_factor_of
  have b_factor_of := F_factor_of.binds (ps := ["word"]) fun _ _ _ _ _ _ us hl => match us, hl with | [_], _ => rfl
  have F_is_of := fun_mk (st := s_is_of) l_is_of c_is_of k_is_of
  have b_is_of := F_is_of.binds (ps := ["word", "signs"]) fun _ _ _ _ _ _ us hl => match us, hl with | [_, _], _ => rfl
  have F_read_line := fun_mk (st := s_read_line) l_read_line c_read_line k_read_line
  have b_read_line := F_read_line.binds (ps := ["text", "gates"]) fun _ _ _ _ _ _ us hl => match us, hl with | [_, _], _ => rfl
  have F_read_form := fun_mk (st := s_read_form) l_read_form c_read_form k_read_form
  have b_read_form := F_read_form.binds (ps := ["words", "gates"]) fun _ _ _ _ _ _ us hl => match us, hl with | [_, _], _ => rfl
  have F_read_gates := fun_mk (st := s_read_gates) l_read_gates c_read_gates k_read_gates
  have b_read_gates := F_read_gates.binds (ps := ["words"]) fun _ _ _ _ _ _ us hl => match us, hl with | [_], _ => rfl
  have F_read_one := fun_mk (st := s_read_one) l_read_one c_read_one k_read_one
  have b_read_one := F_read_one.binds (ps := ["words"]) fun _ _ _ _ _ _ us hl => match us, hl with | [_], _ => rfl
  have F_read_road := fun_mk (st := s_read_road) l_read_road c_read_road k_read_road
  have b_read_road := F_read_road.binds (ps := ["words"]) fun _ _ _ _ _ _ us hl => match us, hl with | [_], _ => rfl
  have F_read_product := fun_mk (st := s_read_product) l_read_product c_read_product k_read_product
  have b_read_product := F_read_product.binds (ps := ["words", "gates"]) fun _ _ _ _ _ _ us hl => match us, hl with | [_, _], _ => rfl
  have F_read_close := fun_mk (st := s_read_close) l_read_close c_read_close k_read_close
  have b_read_close := F_read_close.binds (ps := ["words", "gates"]) fun _ _ _ _ _ _ us hl => match us, hl with | [_, _], _ => rfl
  have F_read_turn := fun_mk (st := s_read_turn) l_read_turn c_read_turn k_read_turn
  have b_read_turn := F_read_turn.binds (ps := ["words", "gates"]) fun _ _ _ _ _ _ us hl => match us, hl with | [_, _], _ => rfl
  have F_read_add := fun_mk (st := s_read_add) l_read_add c_read_add k_read_add
  have b_read_add := F_read_add.binds (ps := ["words", "gates"]) fun _ _ _ _ _ _ us hl => match us, hl with | [_, _], _ => rfl
  have F_ascending := fun_mk (st := s_ascending) l_ascending c_ascending k_ascending
  have b_ascending := F_ascending.binds (ps := ["found"]) fun _ _ _ _ _ _ us hl => match us, hl with | [_], _ => rfl
  have F_Script_init := fun_mk (st := s_Script_init) l_Script_init c_Script_init k_Script_init
  have b_Script_init := F_Script_init.binds (ps := ["self", "text"]) fun _ _ _ _ _ _ us hl => match us, hl with | [_, _], _ => rfl
  have F_Script_len := fun_mk (st := s_Script_len) l_Script_len c_Script_len k_Script_len
  have b_Script_len := F_Script_len.binds (ps := ["self"]) fun _ _ _ _ _ _ us hl => match us, hl with | [_], _ => rfl
  have F_Script_contains := fun_mk (st := s_Script_contains) l_Script_contains c_Script_contains k_Script_contains
  have b_Script_contains := F_Script_contains.binds (ps := ["self", "value"]) fun _ _ _ _ _ _ us hl => match us, hl with | [_, _], _ => rfl
  have F_Script_eq := fun_mk (st := s_Script_eq) l_Script_eq c_Script_eq k_Script_eq
  have b_Script_eq := F_Script_eq.binds (ps := ["self", "other"]) fun _ _ _ _ _ _ us hl => match us, hl with | [_, _], _ => rfl
  have F_Script_gates_of := fun_mk (st := s_Script_gates_of) l_Script_gates_of c_Script_gates_of k_Script_gates_of
  have b_Script_gates_of := F_Script_gates_of.binds (ps := ["self", "name"]) fun _ _ _ _ _ _ us hl => match us, hl with | [_, _], _ => rfl
  have F_read_script := fun_mk (st := s_read_script) l_read_script c_read_script k_read_script
  have b_read_script := F_read_script.binds (ps := ["text"]) fun _ _ _ _ _ _ us hl => match us, hl with | [_], _ => rfl
  have F_l_pot := fun_mk (st := s_l_pot) l_l_pot c_l_pot k_l_pot
  have b_l_pot := F_l_pot.binds (ps := ["script", "place"]) fun _ _ _ _ _ _ us hl => match us, hl with | [_, _], _ => rfl
  have F_l_take := fun_mk (st := s_l_take) l_l_take c_l_take k_l_take
  have b_l_take := F_l_take.binds (ps := ["pot", "upto"]) fun _ _ _ _ _ _ us hl => match us, hl with | [_, _], _ => rfl
  have F_l_of := fun_mk (st := s_l_of) l_l_of c_l_of k_l_of
  have b_l_of := F_l_of.binds (ps := ["pot", "some"]) fun _ _ _ _ _ _ us hl => match us, hl with | [_, _], _ => rfl
  have F_l_some := fun_mk (st := s_l_some) l_l_some c_l_some k_l_some
  have b_l_some := F_l_some.binds (ps := ["pot", "pool", "many"]) fun _ _ _ _ _ _ us hl => match us, hl with | [_, _, _], _ => rfl
  have F_l_cells := fun_mk (st := s_l_cells) l_l_cells c_l_cells k_l_cells
  have b_l_cells := F_l_cells.binds (ps := ["script", "most"]) fun _ _ _ _ _ _ us hl => match us, hl with | [_, _], _ => rfl
  have F_l_heard := fun_mk (st := s_l_heard) l_l_heard c_l_heard k_l_heard
  have b_l_heard := F_l_heard.binds (ps := ["call"]) fun _ _ _ _ _ _ us hl => match us, hl with | [_], _ => rfl
  have F_l_num := fun_mk (st := s_l_num) l_l_num c_l_num k_l_num
  have b_l_num := F_l_num.binds (ps := ["by", "top", "bottom"]) fun _ _ _ _ _ _ us hl => match us, hl with | [_, _, _], _ => rfl
  have F_l_book_names := fun_mk (st := s_l_book_names) l_l_book_names c_l_book_names k_l_book_names
  have b_l_book_names := F_l_book_names.binds (ps := ["pot", "many"]) fun _ _ _ _ _ _ us hl => match us, hl with | [_, _], _ => rfl
  have F_l_script_line_gates := fun_mk (st := s_l_script_line_gates) l_l_script_line_gates c_l_script_line_gates k_l_script_line_gates
  have b_l_script_line_gates := F_l_script_line_gates.binds (ps := ["known", "form", "parts"]) fun _ _ _ _ _ _ us hl => match us, hl with | [_, _, _], _ => rfl
  have F_l_script_gates := fun_mk (st := s_l_script_gates) l_l_script_gates c_l_script_gates k_l_script_gates
  have b_l_script_gates := F_l_script_gates.binds (ps := ["lines"]) fun _ _ _ _ _ _ us hl => match us, hl with | [_], _ => rfl
  have F_l_script_width := fun_mk (st := s_l_script_width) l_l_script_width c_l_script_width k_l_script_width
  have b_l_script_width := F_l_script_width.binds (ps := ["lines"]) fun _ _ _ _ _ _ us hl => match us, hl with | [_], _ => rfl
  have F_l_script_factor_text := fun_mk (st := s_l_script_factor_text) l_l_script_factor_text c_l_script_factor_text k_l_script_factor_text
  have b_l_script_factor_text := F_l_script_factor_text.binds (ps := ["factor"]) fun _ _ _ _ _ _ us hl => match us, hl with | [_], _ => rfl
  have F_l_script_line_text := fun_mk (st := s_l_script_line_text) l_l_script_line_text c_l_script_line_text k_l_script_line_text
  have b_l_script_line_text := F_l_script_line_text.binds (ps := ["line"]) fun _ _ _ _ _ _ us hl => match us, hl with | [_], _ => rfl
  have F_l_script_text := fun_mk (st := s_l_script_text) l_l_script_text c_l_script_text k_l_script_text
  have b_l_script_text := F_l_script_text.binds (ps := ["lines"]) fun _ _ _ _ _ _ us hl => match us, hl with | [_], _ => rfl
  have F_l_script_name := fun_mk (st := s_l_script_name) l_l_script_name c_l_script_name k_l_script_name
  have b_l_script_name := F_l_script_name.binds (ps := ["pot", "at"]) fun _ _ _ _ _ _ us hl => match us, hl with | [_, _], _ => rfl
  have F_l_script_factor_drawn := fun_mk (st := s_l_script_factor_drawn) l_l_script_factor_drawn c_l_script_factor_drawn k_l_script_factor_drawn
  have b_l_script_factor_drawn := F_l_script_factor_drawn.binds (ps := ["pot", "by"]) fun _ _ _ _ _ _ us hl => match us, hl with | [_, _], _ => rfl
  have F_l_script_simple := fun_mk (st := s_l_script_simple) l_l_script_simple c_l_script_simple k_l_script_simple
  have b_l_script_simple := F_l_script_simple.binds (ps := ["pot", "kinds", "width"]) fun _ _ _ _ _ _ us hl => match us, hl with | [_, _, _], _ => rfl
  have F_l_script_some := fun_mk (st := s_l_script_some) l_l_script_some c_l_script_some k_l_script_some
  have b_l_script_some := F_l_script_some.binds (ps := ["pot", "pool", "many"]) fun _ _ _ _ _ _ us hl => match us, hl with | [_, _, _], _ => rfl
  have F_l_script_try := fun_mk (st := s_l_script_try) l_l_script_try c_l_script_try k_l_script_try
  have b_l_script_try := F_l_script_try.binds (ps := ["pot", "by", "width", "known", "form"]) fun _ _ _ _ _ _ us hl => match us, hl with | [_, _, _, _, _], _ => rfl
  have F_l_script_size := fun_mk (st := s_l_script_size) l_l_script_size c_l_script_size k_l_script_size
  have b_l_script_size := F_l_script_size.binds (ps := ["sizes", "form", "parts"]) fun _ _ _ _ _ _ us hl => match us, hl with | [_, _, _], _ => rfl
  have F_l_script_drawn := fun_mk (st := s_l_script_drawn) l_l_script_drawn c_l_script_drawn k_l_script_drawn
  have b_l_script_drawn := F_l_script_drawn.binds (ps := ["pot", "book", "width", "budget", "is_plain"]) fun _ _ _ _ _ _ us hl => match us, hl with | [_, _, _, _, _], _ => rfl
  have F_l_odd := fun_mk (st := s_l_odd) l_l_odd c_l_odd k_l_odd
  have b_l_odd := F_l_odd.binds (ps := ["pot"]) fun _ _ _ _ _ _ us hl => match us, hl with | [_], _ => rfl
  have F_l_bent := fun_mk (st := s_l_bent) l_l_bent c_l_bent k_l_bent
  have b_l_bent := F_l_bent.binds (ps := ["pot", "value"]) fun _ _ _ _ _ _ us hl => match us, hl with | [_, _], _ => rfl
  have F_l_is_told_right := fun_mk (st := s_l_is_told_right) l_l_is_told_right c_l_is_told_right k_l_is_told_right
  have b_l_is_told_right := F_l_is_told_right.binds (ps := ["script", "lines"]) fun _ _ _ _ _ _ us hl => match us, hl with | [_, _], _ => rfl
  have F_l_other_lines := fun_mk (st := s_l_other_lines) l_l_other_lines c_l_other_lines k_l_other_lines
  have b_l_other_lines := F_l_other_lines.binds (ps := ["pot", "lines"]) fun _ _ _ _ _ _ us hl => match us, hl with | [_, _], _ => rfl
  have F_l_are_values_right := fun_mk (st := s_l_are_values_right) l_l_are_values_right c_l_are_values_right k_l_are_values_right
  have b_l_are_values_right := F_l_are_values_right.binds (ps := ["pot", "script", "lines"]) fun _ _ _ _ _ _ us hl => match us, hl with | [_, _, _], _ => rfl
  have F_l_right := fun_mk (st := s_l_right) l_l_right c_l_right k_l_right
  have b_l_right := F_l_right.binds (ps := ["pot"]) fun _ _ _ _ _ _ us hl => match us, hl with | [_], _ => rfl
  have F_law := fun_mk (st := s_law) l_law c_law k_law
  have b_law := F_law.binds (ps := ["script"]) fun _ _ _ _ _ _ us hl => match us, hl with | [_], _ => rfl
  let T : Txt K mg := {
    f_GateError_init := f_GateError_init, fd_GateError_init := _, F_GateError_init := F_GateError_init, b_GateError_init := b_GateError_init
    f_integer_of := f_integer_of, fd_integer_of := _, F_integer_of := F_integer_of, b_integer_of := b_integer_of
    g_integer_of := PySem.W.mg_of X G a_integer_of
    f_is_letters := f_is_letters, fd_is_letters := _, F_is_letters := F_is_letters, b_is_letters := b_is_letters
    g_is_letters := PySem.W.mg_of X G a_is_letters
    f_is_line_name := f_is_line_name, fd_is_line_name := _, F_is_line_name := F_is_line_name, b_is_line_name := b_is_line_name
    g_is_line_name := PySem.W.mg_of X G a_is_line_name
    f_gate_of := f_gate_of, fd_gate_of := _, F_gate_of := F_gate_of, b_gate_of := b_gate_of
    g_gate_of := PySem.W.mg_of X G a_gate_of
    f_factor_of := f_factor_of, fd_factor_of := _, F_factor_of := F_factor_of, b_factor_of := b_factor_of
    g_factor_of := PySem.W.mg_of X G a_factor_of
    f_is_of := f_is_of, fd_is_of := _, F_is_of := F_is_of, b_is_of := b_is_of
    g_is_of := PySem.W.mg_of X G a_is_of
    f_read_line := f_read_line, fd_read_line := _, F_read_line := F_read_line, b_read_line := b_read_line
    g_read_line := PySem.W.mg_of X G a_read_line
    f_read_form := f_read_form, fd_read_form := _, F_read_form := F_read_form, b_read_form := b_read_form
    g_read_form := PySem.W.mg_of X G a_read_form
    f_read_gates := f_read_gates, fd_read_gates := _, F_read_gates := F_read_gates, b_read_gates := b_read_gates
    g_read_gates := PySem.W.mg_of X G a_read_gates
    f_read_one := f_read_one, fd_read_one := _, F_read_one := F_read_one, b_read_one := b_read_one
    g_read_one := PySem.W.mg_of X G a_read_one
    f_read_road := f_read_road, fd_read_road := _, F_read_road := F_read_road, b_read_road := b_read_road
    g_read_road := PySem.W.mg_of X G a_read_road
    f_read_product := f_read_product, fd_read_product := _, F_read_product := F_read_product, b_read_product := b_read_product
    g_read_product := PySem.W.mg_of X G a_read_product
    f_read_close := f_read_close, fd_read_close := _, F_read_close := F_read_close, b_read_close := b_read_close
    g_read_close := PySem.W.mg_of X G a_read_close
    f_read_turn := f_read_turn, fd_read_turn := _, F_read_turn := F_read_turn, b_read_turn := b_read_turn
    g_read_turn := PySem.W.mg_of X G a_read_turn
    f_read_add := f_read_add, fd_read_add := _, F_read_add := F_read_add, b_read_add := b_read_add
    g_read_add := PySem.W.mg_of X G a_read_add
    f_ascending := f_ascending, fd_ascending := _, F_ascending := F_ascending, b_ascending := b_ascending
    g_ascending := PySem.W.mg_of X G a_ascending
    f_Script_init := f_Script_init, fd_Script_init := _, F_Script_init := F_Script_init, b_Script_init := b_Script_init
    f_Script_len := f_Script_len, fd_Script_len := _, F_Script_len := F_Script_len, b_Script_len := b_Script_len
    f_Script_contains := f_Script_contains, fd_Script_contains := _, F_Script_contains := F_Script_contains, b_Script_contains := b_Script_contains
    f_Script_eq := f_Script_eq, fd_Script_eq := _, F_Script_eq := F_Script_eq, b_Script_eq := b_Script_eq
    f_Script_gates_of := f_Script_gates_of, fd_Script_gates_of := _, F_Script_gates_of := F_Script_gates_of, b_Script_gates_of := b_Script_gates_of
    f_read_script := f_read_script, fd_read_script := _, F_read_script := F_read_script, b_read_script := b_read_script
    g_read_script := PySem.W.mg_of X G a_read_script
    f_l_pot := f_l_pot, fd_l_pot := _, F_l_pot := F_l_pot, b_l_pot := b_l_pot
    g_l_pot := PySem.W.mg_of X G a_l_pot
    f_l_take := f_l_take, fd_l_take := _, F_l_take := F_l_take, b_l_take := b_l_take
    g_l_take := PySem.W.mg_of X G a_l_take
    f_l_of := f_l_of, fd_l_of := _, F_l_of := F_l_of, b_l_of := b_l_of
    g_l_of := PySem.W.mg_of X G a_l_of
    f_l_some := f_l_some, fd_l_some := _, F_l_some := F_l_some, b_l_some := b_l_some
    g_l_some := PySem.W.mg_of X G a_l_some
    f_l_cells := f_l_cells, fd_l_cells := _, F_l_cells := F_l_cells, b_l_cells := b_l_cells
    g_l_cells := PySem.W.mg_of X G a_l_cells
    f_l_heard := f_l_heard, fd_l_heard := _, F_l_heard := F_l_heard, b_l_heard := b_l_heard
    g_l_heard := PySem.W.mg_of X G a_l_heard
    f_l_num := f_l_num, fd_l_num := _, F_l_num := F_l_num, b_l_num := b_l_num
    g_l_num := PySem.W.mg_of X G a_l_num
    f_l_book_names := f_l_book_names, fd_l_book_names := _, F_l_book_names := F_l_book_names, b_l_book_names := b_l_book_names
    g_l_book_names := PySem.W.mg_of X G a_l_book_names
    f_l_script_line_gates := f_l_script_line_gates, fd_l_script_line_gates := _, F_l_script_line_gates := F_l_script_line_gates, b_l_script_line_gates := b_l_script_line_gates
    g_l_script_line_gates := PySem.W.mg_of X G a_l_script_line_gates
    f_l_script_gates := f_l_script_gates, fd_l_script_gates := _, F_l_script_gates := F_l_script_gates, b_l_script_gates := b_l_script_gates
    g_l_script_gates := PySem.W.mg_of X G a_l_script_gates
    f_l_script_width := f_l_script_width, fd_l_script_width := _, F_l_script_width := F_l_script_width, b_l_script_width := b_l_script_width
    g_l_script_width := PySem.W.mg_of X G a_l_script_width
    f_l_script_factor_text := f_l_script_factor_text, fd_l_script_factor_text := _, F_l_script_factor_text := F_l_script_factor_text, b_l_script_factor_text := b_l_script_factor_text
    g_l_script_factor_text := PySem.W.mg_of X G a_l_script_factor_text
    f_l_script_line_text := f_l_script_line_text, fd_l_script_line_text := _, F_l_script_line_text := F_l_script_line_text, b_l_script_line_text := b_l_script_line_text
    g_l_script_line_text := PySem.W.mg_of X G a_l_script_line_text
    f_l_script_text := f_l_script_text, fd_l_script_text := _, F_l_script_text := F_l_script_text, b_l_script_text := b_l_script_text
    g_l_script_text := PySem.W.mg_of X G a_l_script_text
    f_l_script_name := f_l_script_name, fd_l_script_name := _, F_l_script_name := F_l_script_name, b_l_script_name := b_l_script_name
    g_l_script_name := PySem.W.mg_of X G a_l_script_name
    f_l_script_factor_drawn := f_l_script_factor_drawn, fd_l_script_factor_drawn := _, F_l_script_factor_drawn := F_l_script_factor_drawn, b_l_script_factor_drawn := b_l_script_factor_drawn
    g_l_script_factor_drawn := PySem.W.mg_of X G a_l_script_factor_drawn
    f_l_script_simple := f_l_script_simple, fd_l_script_simple := _, F_l_script_simple := F_l_script_simple, b_l_script_simple := b_l_script_simple
    g_l_script_simple := PySem.W.mg_of X G a_l_script_simple
    f_l_script_some := f_l_script_some, fd_l_script_some := _, F_l_script_some := F_l_script_some, b_l_script_some := b_l_script_some
    g_l_script_some := PySem.W.mg_of X G a_l_script_some
    f_l_script_try := f_l_script_try, fd_l_script_try := _, F_l_script_try := F_l_script_try, b_l_script_try := b_l_script_try
    g_l_script_try := PySem.W.mg_of X G a_l_script_try
    f_l_script_size := f_l_script_size, fd_l_script_size := _, F_l_script_size := F_l_script_size, b_l_script_size := b_l_script_size
    g_l_script_size := PySem.W.mg_of X G a_l_script_size
    f_l_script_drawn := f_l_script_drawn, fd_l_script_drawn := _, F_l_script_drawn := F_l_script_drawn, b_l_script_drawn := b_l_script_drawn
    g_l_script_drawn := PySem.W.mg_of X G a_l_script_drawn
    f_l_odd := f_l_odd, fd_l_odd := _, F_l_odd := F_l_odd, b_l_odd := b_l_odd
    g_l_odd := PySem.W.mg_of X G a_l_odd
    f_l_bent := f_l_bent, fd_l_bent := _, F_l_bent := F_l_bent, b_l_bent := b_l_bent
    g_l_bent := PySem.W.mg_of X G a_l_bent
    f_l_is_told_right := f_l_is_told_right, fd_l_is_told_right := _, F_l_is_told_right := F_l_is_told_right, b_l_is_told_right := b_l_is_told_right
    g_l_is_told_right := PySem.W.mg_of X G a_l_is_told_right
    f_l_other_lines := f_l_other_lines, fd_l_other_lines := _, F_l_other_lines := F_l_other_lines, b_l_other_lines := b_l_other_lines
    g_l_other_lines := PySem.W.mg_of X G a_l_other_lines
    f_l_are_values_right := f_l_are_values_right, fd_l_are_values_right := _, F_l_are_values_right := F_l_are_values_right, b_l_are_values_right := b_l_are_values_right
    g_l_are_values_right := PySem.W.mg_of X G a_l_are_values_right
    f_l_right := f_l_right, fd_l_right := _, F_l_right := F_l_right, b_l_right := b_l_right
    g_l_right := PySem.W.mg_of X G a_l_right
    f_law := fa, fd_law := _, F_law := F_law, b_law := b_law
    g_law := PySem.W.mg_of X G a_law
    n_ValueError := PySem.W.mg_none_of X G n_ValueError
    n_abs := PySem.W.mg_none_of X G n_abs
    n_all := PySem.W.mg_none_of X G n_all
    n_any := PySem.W.mg_none_of X G n_any
    n_bool := PySem.W.mg_none_of X G n_bool
    n_enumerate := PySem.W.mg_none_of X G n_enumerate
    n_int := PySem.W.mg_none_of X G n_int
    n_isinstance := PySem.W.mg_none_of X G n_isinstance
    n_len := PySem.W.mg_none_of X G n_len
    n_list := PySem.W.mg_none_of X G n_list
    n_max := PySem.W.mg_none_of X G n_max
    n_min := PySem.W.mg_none_of X G n_min
    n_range := PySem.W.mg_none_of X G n_range
    n_repr := PySem.W.mg_none_of X G n_repr
    n_set := PySem.W.mg_none_of X G n_set
    n_sorted := PySem.W.mg_none_of X G n_sorted
    n_str := PySem.W.mg_none_of X G n_str
    n_sum := PySem.W.mg_none_of X G n_sum
    n_tuple := PySem.W.mg_none_of X G n_tuple
    n_zip := PySem.W.mg_none_of X G n_zip
    m_LETTERS := ⟨_, PySem.W.mg_of X G m_LETTERS, ⟨_, rfl⟩⟩
    m_FIGURES := ⟨_, PySem.W.mg_of X G m_FIGURES, ⟨_, rfl⟩⟩
    m_MOST_FIGURES := ⟨_, PySem.W.mg_of X G m_MOST_FIGURES, ⟨_, rfl⟩⟩
    a_NO_NAMES := aP, m_NO_NAMES := ⟨_, PySem.W.mg_of X G m_NO_NAMES, rfl⟩, sq_NO_NAMES := fun H => .inr ⟨_, uP, nP, l_NO_NAMES, rfl, rfl, Nat.le_trans z_NO_NAMES (by decide), v_NO_NAMES⟩, g_gcd := PySem.W.mg_of X G m_gcd
    c_NoName := c_NoName, g_NoName := PySem.W.mg_of X G a_NoName
    c_BadScript := c_BadScript, g_BadScript := PySem.W.mg_of X G a_BadScript
    c_GateError := c_GateError, g_GateError := PySem.W.mg_of X G a_GateError
    c_Script := c_Script, g_Script := PySem.W.mg_of X G a_Script }
  have XT : TxtX K mg T := {
    tyI := e_tI
    cl := ⟨b_pg, b_hd, b_po, b_sa⟩
    mkS := ⟨b_mk, a_Script_init, fn_Script_init, b_kp⟩
    na1 := b_n1
    na2 := b_n2
    na3 := b_n3
    na4 := b_n4
    na5 := b_n5
    na6 := b_n6
    ca := b_ca
    ob := b_ob
    kb := if_pos (by simp) }
  have XM : TxtM K mg T := {
    exN := ⟨⟨nmNoName, qnNoName, NnNoName, bsNoName, _, snNoName, subNoName, abNoName, colNoName, ddNoName, x0NoName, x1NoName, x2NoName, x3NoName, x5NoName, xL_NoName, rfl⟩, e_saNoName, e_exNoName, e_tyNoName, e_kpNoName⟩
    inN := e_inNoName
    noN := e_noNoName
    xfN := ⟨o_gaNoName, o_ggNoName, e_exNoName, o_hdNoName⟩
    ecN := ⟨o_gaNoName, o_ggNoName, e_exNoName, o_hdNoName, o_haNoName, e_hn, e_ht, o_hmNoName⟩
    teN := PySem.W.exm_ref g_ex g_hd g_ty o_sbNoName
    ktN := if_pos (by simp)
    ln := a_Script_len
    lnF := fn_Script_len
    ct := a_Script_contains
    ctF := fn_Script_contains
    eq := a_Script_eq
    eqF := fn_Script_eq
    ne := b_ne
    sub := b_su
    ks := fun t ht => by
      simp only [List.mem_cons, List.mem_nil_iff, or_false] at ht
      rcases ht with rfl | rfl | rfl | rfl | rfl
      · exact kit_own b_ic b_ty b_sstr
      · exact kit_own b_ic b_ty b_sNoneType
      · exact kit_own b_ic b_ty b_sint
      · exact kit_own b_ic b_ty b_sdict
      · exact kit_own b_ic b_ty b_stuple
    nf := fun t ht => by
      simp only [List.mem_cons, List.mem_nil_iff, or_false] at ht
      unfold PySem.W.notFirst
      rcases ht with rfl | rfl | rfl | rfl | rfl
      · rw [b_sstr]; simp
      · rw [b_sNoneType]; simp
      · rw [b_sint]; simp
      · rw [b_sdict]; simp
      · rw [b_stuple]; simp
    m_gates_of := ⟨a_Script_gates_of, fn_Script_gates_of, k_Script_gates_of⟩ }
  have J1 : JAt K mg T cJ1 := ⟨⟨_, _, _, _, _, _, _, _, rfl, l_l_are_values_right, c_l_are_values_right⟩⟩
  have one : ∀ {R : Addr × Addr → Prop}, R (cJ1, P1) → ∀ t ∈ [(cJ1, P1)], R t := fun h1 t ht => by
    rw [List.mem_singleton.mp ht]
    exact h1
  refine ⟨T.fd_law, spLaw9 K P1, [(cJ1, P1)], one hP1, one j_no1, one (PySem.W.codeHd_of_K X j_hd1), fun s u => .of_eq rfl, ?_, ?_⟩
  · intro H a ns hl hb hT hS
    refine ⟨a, ns, rfl, hS, hl, hb, fun q hq => ?_, fun _ => rfl⟩
    rw [List.mem_singleton.mp hq]
    exact .nil (hT _ List.mem_cons_self)
  · intro base hK hN hTB
    exact ok_law (P := l.prog) (w := w) T XT XM J1 (hTB _ List.mem_cons_self)
end OG
open PySem PySem.W PyProof.Rows in
set_option maxRecDepth 100000 in
set_option maxHeartbeats 0 in
theorem PySem.Challenge.cw_opengates_k09_whole_scripts_and_their_te_holds : PySem.Challenge.rw_opengates_k09_whole_scripts_and_their_te.Holds := by
  w_on; o_law; k_head; (case hw => w_witness2)
  k_fill
  refine OGX.walkGL (l := PySem.Challenge.rw_opengates_k09_whole_scripts_and_their_te) (n := 63) (k := 12) (x := "script") rfl (by decide) rfl ⟨rfl, by decide, by decide⟩ (fun w h Y => PySem.W.km_in_of Y) ?F
  case F =>
    intro w mg fa h Y X KX G hmg
    refine' OG.all_mk KX G hmg (PySem.W.km_tabs_of Y _ List.mem_cons_self) ?p_a_NoName ?p_a_BadScript ?p_a_GateError ?p_a_Script ?p_a_GateError_init ?p_l_GateError_init ?p_c_GateError_init ?p_k_GateError_init ?p_a_integer_of ?p_l_integer_of ?p_c_integer_of ?p_k_integer_of ?p_a_is_letters ?p_l_is_letters ?p_c_is_letters ?p_k_is_letters ?p_a_is_line_name ?p_l_is_line_name ?p_c_is_line_name ?p_k_is_line_name ?p_a_gate_of ?p_l_gate_of ?p_c_gate_of ?p_k_gate_of ?p_a_factor_of ?p_l_factor_of ?p_c_factor_of ?p_k_factor_of ?p_a_is_of ?p_l_is_of ?p_c_is_of ?p_k_is_of ?p_a_read_line ?p_l_read_line ?p_c_read_line ?p_k_read_line ?p_a_read_form ?p_l_read_form ?p_c_read_form ?p_k_read_form ?p_a_read_gates ?p_l_read_gates ?p_c_read_gates ?p_k_read_gates ?p_a_read_one ?p_l_read_one ?p_c_read_one ?p_k_read_one ?p_a_read_road ?p_l_read_road ?p_c_read_road ?p_k_read_road ?p_a_read_product ?p_l_read_product ?p_c_read_product ?p_k_read_product ?p_a_read_close ?p_l_read_close ?p_c_read_close ?p_k_read_close ?p_a_read_turn ?p_l_read_turn ?p_c_read_turn ?p_k_read_turn ?p_a_read_add ?p_l_read_add ?p_c_read_add ?p_k_read_add ?p_a_ascending ?p_l_ascending ?p_c_ascending ?p_k_ascending ?p_a_Script_init ?p_l_Script_init ?p_c_Script_init ?p_k_Script_init ?p_a_Script_len ?p_l_Script_len ?p_c_Script_len ?p_k_Script_len ?p_a_Script_contains ?p_l_Script_contains ?p_c_Script_contains ?p_k_Script_contains ?p_a_Script_eq ?p_l_Script_eq ?p_c_Script_eq ?p_k_Script_eq ?p_a_Script_gates_of ?p_l_Script_gates_of ?p_c_Script_gates_of ?p_k_Script_gates_of ?p_a_read_script ?p_l_read_script ?p_c_read_script ?p_k_read_script ?p_a_l_pot ?p_l_l_pot ?p_c_l_pot ?p_k_l_pot ?p_a_l_take ?p_l_l_take ?p_c_l_take ?p_k_l_take ?p_a_l_of ?p_l_l_of ?p_c_l_of ?p_k_l_of ?p_a_l_some ?p_l_l_some ?p_c_l_some ?p_k_l_some ?p_a_l_cells ?p_l_l_cells ?p_c_l_cells ?p_k_l_cells ?p_a_l_heard ?p_l_l_heard ?p_c_l_heard ?p_k_l_heard ?p_a_l_num ?p_l_l_num ?p_c_l_num ?p_k_l_num ?p_a_l_book_names ?p_l_l_book_names ?p_c_l_book_names ?p_k_l_book_names ?p_a_l_script_line_gates ?p_l_l_script_line_gates ?p_c_l_script_line_gates ?p_k_l_script_line_gates ?p_a_l_script_gates ?p_l_l_script_gates ?p_c_l_script_gates ?p_k_l_script_gates ?p_a_l_script_width ?p_l_l_script_width ?p_c_l_script_width ?p_k_l_script_width ?p_a_l_script_factor_text ?p_l_l_script_factor_text ?p_c_l_script_factor_text ?p_k_l_script_factor_text ?p_a_l_script_line_text ?p_l_l_script_line_text ?p_c_l_script_line_text ?p_k_l_script_line_text ?p_a_l_script_text ?p_l_l_script_text ?p_c_l_script_text ?p_k_l_script_text ?p_a_l_script_name ?p_l_l_script_name ?p_c_l_script_name ?p_k_l_script_name ?p_a_l_script_factor_drawn ?p_l_l_script_factor_drawn ?p_c_l_script_factor_drawn ?p_k_l_script_factor_drawn ?p_a_l_script_simple ?p_l_l_script_simple ?p_c_l_script_simple ?p_k_l_script_simple ?p_a_l_script_some ?p_l_l_script_some ?p_c_l_script_some ?p_k_l_script_some ?p_a_l_script_try ?p_l_l_script_try ?p_c_l_script_try ?p_k_l_script_try ?p_a_l_script_size ?p_l_l_script_size ?p_c_l_script_size ?p_k_l_script_size ?p_a_l_script_drawn ?p_l_l_script_drawn ?p_c_l_script_drawn ?p_k_l_script_drawn ?p_a_l_odd ?p_l_l_odd ?p_c_l_odd ?p_k_l_odd ?p_a_l_bent ?p_l_l_bent ?p_c_l_bent ?p_k_l_bent ?p_a_l_is_told_right ?p_l_l_is_told_right ?p_c_l_is_told_right ?p_k_l_is_told_right ?p_a_l_other_lines ?p_l_l_other_lines ?p_c_l_other_lines ?p_k_l_other_lines ?p_a_l_are_values_right ?p_l_l_are_values_right ?p_c_l_are_values_right ?p_k_l_are_values_right ?p_a_l_right ?p_l_l_right ?p_c_l_right ?p_k_l_right ?p_a_law ?p_l_law ?p_c_law ?p_k_law ?p_n_ValueError ?p_n_abs ?p_n_all ?p_n_any ?p_n_bool ?p_n_enumerate ?p_n_int ?p_n_isinstance ?p_n_len ?p_n_list ?p_n_max ?p_n_min ?p_n_range ?p_n_repr ?p_n_set ?p_n_sorted ?p_n_str ?p_n_sum ?p_n_tuple ?p_n_zip ?p_m_LETTERS ?p_m_FIGURES ?p_m_MOST_FIGURES ?p_m_NO_NAMES ?p_l_NO_NAMES ?p_v_NO_NAMES ?p_z_NO_NAMES ?p_m_gcd ?p_xL_NoName ?p_e_saNoName ?p_e_exNoName ?p_e_tyNoName ?p_e_kpNoName ?p_e_inNoName ?p_e_noNoName ?p_e_tI ?p_e_hn ?p_e_ht ?p_g_ex ?p_g_hd ?p_g_ty ?p_o_gaNoName ?p_o_ggNoName ?p_o_hdNoName ?p_o_haNoName ?p_o_hmNoName ?p_o_sbNoName ?p_o_icNoName ?p_b_ic ?p_b_ty ?p_b_sstr ?p_b_sNoneType ?p_b_sint ?p_b_sdict ?p_b_stuple ?p_b_pg ?p_b_hd ?p_b_po ?p_b_sa ?p_b_mk ?p_b_kp ?p_b_n1 ?p_b_n2 ?p_b_n3 ?p_b_n4 ?p_b_n5 ?p_b_n6 ?p_b_ca ?p_b_ob ?p_b_ne ?p_b_su ?p_fn_Script_init ?p_fn_Script_len ?p_fn_Script_contains ?p_fn_Script_eq ?p_fn_Script_gates_of ?p_j_hd1 ?p_j_no1
    (case p_a_NoName => k_is)
    (case p_a_BadScript => k_is)
    (case p_a_GateError => k_is)
    (case p_a_Script => k_is)
    (case p_a_GateError_init => k_is)
    (case p_l_GateError_init => k_is)
    (case p_c_GateError_init => k_is)
    (case p_k_GateError_init => k_is)
    (case p_a_integer_of => k_is)
    (case p_l_integer_of => k_is)
    (case p_c_integer_of => k_is)
    (case p_k_integer_of => k_is)
    (case p_a_is_letters => k_is)
    (case p_l_is_letters => k_is)
    (case p_c_is_letters => k_is)
    (case p_k_is_letters => k_is)
    (case p_a_is_line_name => k_is)
    (case p_l_is_line_name => k_is)
    (case p_c_is_line_name => k_is)
    (case p_k_is_line_name => k_is)
    (case p_a_gate_of => k_is)
    (case p_l_gate_of => k_is)
    (case p_c_gate_of => k_is)
    (case p_k_gate_of => k_is)
    (case p_a_factor_of => k_is)
    (case p_l_factor_of => k_is)
    (case p_c_factor_of => k_is)
    (case p_k_factor_of => k_is)
    (case p_a_is_of => k_is)
    (case p_l_is_of => k_is)
    (case p_c_is_of => k_is)
    (case p_k_is_of => k_is)
    (case p_a_read_line => k_is)
    (case p_l_read_line => k_is)
    (case p_c_read_line => k_is)
    (case p_k_read_line => k_is)
    (case p_a_read_form => k_is)
    (case p_l_read_form => k_is)
    (case p_c_read_form => k_is)
    (case p_k_read_form => k_is)
    (case p_a_read_gates => k_is)
    (case p_l_read_gates => k_is)
    (case p_c_read_gates => k_is)
    (case p_k_read_gates => k_is)
    (case p_a_read_one => k_is)
    (case p_l_read_one => k_is)
    (case p_c_read_one => k_is)
    (case p_k_read_one => k_is)
    (case p_a_read_road => k_is)
    (case p_l_read_road => k_is)
    (case p_c_read_road => k_is)
    (case p_k_read_road => k_is)
    (case p_a_read_product => k_is)
    (case p_l_read_product => k_is)
    (case p_c_read_product => k_is)
    (case p_k_read_product => k_is)
    (case p_a_read_close => k_is)
    (case p_l_read_close => k_is)
    (case p_c_read_close => k_is)
    (case p_k_read_close => k_is)
    (case p_a_read_turn => k_is)
    (case p_l_read_turn => k_is)
    (case p_c_read_turn => k_is)
    (case p_k_read_turn => k_is)
    (case p_a_read_add => k_is)
    (case p_l_read_add => k_is)
    (case p_c_read_add => k_is)
    (case p_k_read_add => k_is)
    (case p_a_ascending => k_is)
    (case p_l_ascending => k_is)
    (case p_c_ascending => k_is)
    (case p_k_ascending => k_is)
    (case p_a_Script_init => k_is)
    (case p_l_Script_init => k_is)
    (case p_c_Script_init => k_is)
    (case p_k_Script_init => k_is)
    (case p_a_Script_len => k_is)
    (case p_l_Script_len => k_is)
    (case p_c_Script_len => k_is)
    (case p_k_Script_len => k_is)
    (case p_a_Script_contains => k_is)
    (case p_l_Script_contains => k_is)
    (case p_c_Script_contains => k_is)
    (case p_k_Script_contains => k_is)
    (case p_a_Script_eq => k_is)
    (case p_l_Script_eq => k_is)
    (case p_c_Script_eq => k_is)
    (case p_k_Script_eq => k_is)
    (case p_a_Script_gates_of => k_is)
    (case p_l_Script_gates_of => k_is)
    (case p_c_Script_gates_of => k_is)
    (case p_k_Script_gates_of => k_is)
    (case p_a_read_script => k_is)
    (case p_l_read_script => k_is)
    (case p_c_read_script => k_is)
    (case p_k_read_script => k_is)
    (case p_a_l_pot => k_is)
    (case p_l_l_pot => k_is)
    (case p_c_l_pot => k_is)
    (case p_k_l_pot => k_is)
    (case p_a_l_take => k_is)
    (case p_l_l_take => k_is)
    (case p_c_l_take => k_is)
    (case p_k_l_take => k_is)
    (case p_a_l_of => k_is)
    (case p_l_l_of => k_is)
    (case p_c_l_of => k_is)
    (case p_k_l_of => k_is)
    (case p_a_l_some => k_is)
    (case p_l_l_some => k_is)
    (case p_c_l_some => k_is)
    (case p_k_l_some => k_is)
    (case p_a_l_cells => k_is)
    (case p_l_l_cells => k_is)
    (case p_c_l_cells => k_is)
    (case p_k_l_cells => k_is)
    (case p_a_l_heard => k_is)
    (case p_l_l_heard => k_is)
    (case p_c_l_heard => k_is)
    (case p_k_l_heard => k_is)
    (case p_a_l_num => k_is)
    (case p_l_l_num => k_is)
    (case p_c_l_num => k_is)
    (case p_k_l_num => k_is)
    (case p_a_l_book_names => k_is)
    (case p_l_l_book_names => k_is)
    (case p_c_l_book_names => k_is)
    (case p_k_l_book_names => k_is)
    (case p_a_l_script_line_gates => k_is)
    (case p_l_l_script_line_gates => k_is)
    (case p_c_l_script_line_gates => k_is)
    (case p_k_l_script_line_gates => k_is)
    (case p_a_l_script_gates => k_is)
    (case p_l_l_script_gates => k_is)
    (case p_c_l_script_gates => k_is)
    (case p_k_l_script_gates => k_is)
    (case p_a_l_script_width => k_is)
    (case p_l_l_script_width => k_is)
    (case p_c_l_script_width => k_is)
    (case p_k_l_script_width => k_is)
    (case p_a_l_script_factor_text => k_is)
    (case p_l_l_script_factor_text => k_is)
    (case p_c_l_script_factor_text => k_is)
    (case p_k_l_script_factor_text => k_is)
    (case p_a_l_script_line_text => k_is)
    (case p_l_l_script_line_text => k_is)
    (case p_c_l_script_line_text => k_is)
    (case p_k_l_script_line_text => k_is)
    (case p_a_l_script_text => k_is)
    (case p_l_l_script_text => k_is)
    (case p_c_l_script_text => k_is)
    (case p_k_l_script_text => k_is)
    (case p_a_l_script_name => k_is)
    (case p_l_l_script_name => k_is)
    (case p_c_l_script_name => k_is)
    (case p_k_l_script_name => k_is)
    (case p_a_l_script_factor_drawn => k_is)
    (case p_l_l_script_factor_drawn => k_is)
    (case p_c_l_script_factor_drawn => k_is)
    (case p_k_l_script_factor_drawn => k_is)
    (case p_a_l_script_simple => k_is)
    (case p_l_l_script_simple => k_is)
    (case p_c_l_script_simple => k_is)
    (case p_k_l_script_simple => k_is)
    (case p_a_l_script_some => k_is)
    (case p_l_l_script_some => k_is)
    (case p_c_l_script_some => k_is)
    (case p_k_l_script_some => k_is)
    (case p_a_l_script_try => k_is)
    (case p_l_l_script_try => k_is)
    (case p_c_l_script_try => k_is)
    (case p_k_l_script_try => k_is)
    (case p_a_l_script_size => k_is)
    (case p_l_l_script_size => k_is)
    (case p_c_l_script_size => k_is)
    (case p_k_l_script_size => k_is)
    (case p_a_l_script_drawn => k_is)
    (case p_l_l_script_drawn => k_is)
    (case p_c_l_script_drawn => k_is)
    (case p_k_l_script_drawn => k_is)
    (case p_a_l_odd => k_is)
    (case p_l_l_odd => k_is)
    (case p_c_l_odd => k_is)
    (case p_k_l_odd => k_is)
    (case p_a_l_bent => k_is)
    (case p_l_l_bent => k_is)
    (case p_c_l_bent => k_is)
    (case p_k_l_bent => k_is)
    (case p_a_l_is_told_right => k_is)
    (case p_l_l_is_told_right => k_is)
    (case p_c_l_is_told_right => k_is)
    (case p_k_l_is_told_right => k_is)
    (case p_a_l_other_lines => k_is)
    (case p_l_l_other_lines => k_is)
    (case p_c_l_other_lines => k_is)
    (case p_k_l_other_lines => k_is)
    (case p_a_l_are_values_right => k_is)
    (case p_l_l_are_values_right => k_is)
    (case p_c_l_are_values_right => k_is)
    (case p_k_l_are_values_right => k_is)
    (case p_a_l_right => k_is)
    (case p_l_l_right => k_is)
    (case p_c_l_right => k_is)
    (case p_k_l_right => k_is)
    (case p_a_law => k_is)
    (case p_l_law => k_is)
    (case p_c_law => k_is)
    (case p_k_law => k_is)
    (case p_n_ValueError => k_is)
    (case p_n_abs => k_is)
    (case p_n_all => k_is)
    (case p_n_any => k_is)
    (case p_n_bool => k_is)
    (case p_n_enumerate => k_is)
    (case p_n_int => k_is)
    (case p_n_isinstance => k_is)
    (case p_n_len => k_is)
    (case p_n_list => k_is)
    (case p_n_max => k_is)
    (case p_n_min => k_is)
    (case p_n_range => k_is)
    (case p_n_repr => k_is)
    (case p_n_set => k_is)
    (case p_n_sorted => k_is)
    (case p_n_str => k_is)
    (case p_n_sum => k_is)
    (case p_n_tuple => k_is)
    (case p_n_zip => k_is)
    (case p_m_LETTERS => k_is)
    (case p_m_FIGURES => k_is)
    (case p_m_MOST_FIGURES => k_is)
    (case p_m_NO_NAMES => k_is)
    (case p_l_NO_NAMES => k_is)
    (case p_v_NO_NAMES => (repeat (first | exact .nil | refine .cons ⟨_, rfl⟩ ?_)))
    (case p_z_NO_NAMES => decide)
    (case p_m_gcd => k_is)
    (case p_xL_NoName => k_is)
    (case p_e_saNoName => k_is)
    (case p_e_exNoName => k_is)
    (case p_e_tyNoName => k_is)
    (case p_e_kpNoName => k_is)
    (case p_e_inNoName => k_is)
    (case p_e_noNoName => k_is)
    (case p_e_tI => k_is)
    (case p_e_hn => k_is)
    (case p_e_ht => k_is)
    (case p_g_ex => k_is)
    (case p_g_hd => k_is)
    (case p_g_ty => k_is)
    (case p_o_gaNoName => k_is)
    (case p_o_ggNoName => k_is)
    (case p_o_hdNoName => k_is)
    (case p_o_haNoName => k_is)
    (case p_o_hmNoName => k_is)
    (case p_o_sbNoName => k_is)
    (case p_o_icNoName => k_is)
    (case p_b_ic => k_is)
    (case p_b_ty => k_is)
    (case p_b_sstr => k_is)
    (case p_b_sNoneType => k_is)
    (case p_b_sint => k_is)
    (case p_b_sdict => k_is)
    (case p_b_stuple => k_is)
    (case p_b_pg => k_is)
    (case p_b_hd => k_is)
    (case p_b_po => k_is)
    (case p_b_sa => k_is)
    (case p_b_mk => k_is)
    (case p_b_kp => k_is)
    (case p_b_n1 => k_is)
    (case p_b_n2 => k_is)
    (case p_b_n3 => k_is)
    (case p_b_n4 => k_is)
    (case p_b_n5 => k_is)
    (case p_b_n6 => k_is)
    (case p_b_ca => k_is)
    (case p_b_ob => k_is)
    (case p_b_ne => k_is)
    (case p_b_su => k_is)
    (case p_fn_Script_init => k_is)
    (case p_fn_Script_len => k_is)
    (case p_fn_Script_contains => k_is)
    (case p_fn_Script_eq => k_is)
    (case p_fn_Script_gates_of => k_is)
    (case p_j_hd1 => kernel_rfl)
    (case p_j_no1 => kernel_rfl)
