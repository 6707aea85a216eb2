import PyProof.Rows.All
import Wide.All
import OpenK.AllK
import Wide.FinOn
import HandS.ForMost
import HandS.Exc
import HandS.TryOnly
import HandS.Wide
import HandS.WideBits
import HandS.StrMore
import HandS.Conv
import HandS.Style
import HandS.TupAny
import HandS.NoneIn
import HandS.Codes
import HandS.Zip
import HandS.Small
import HandS.ExcInit
import HandS.ExcIs
import HandS.IsInst
import HandS.RaiseMore
import HandS.Lambda
import HandS.Replace
import HandS.OwnEq
import HandS.EndTab
import HandS.Gcd
import HandS.Strs
import HandS.SetFor
import HandS.Walk
import HandS.FStr
import KE.KNestM
import PyProof.ReprRoads
import PyProof.InstNe
import PyProof.ListStr
import KE.IntTextLaws
import KE.KIntText
import PyProof.Rows.Digits
import PyProof.ReprLen
import PyProof.ReprText
import PyProof.StrLawsRepr
import HandS.Star
import HandS.ExcField
import KE.KExcIs
import KE.GoesEnumKw
import KE.KDictList
import HandS.Deep
import KE.SortData
import PyProof.EqAt
import PyProof.Rows.RegStrFacts
import HandS.RevTup
import KE.KDictZip
import HandS.Keys
import HandS.WordsExc
import PyProof.Rows.StrCase
import PySem.Challenge.RW_opengates_k10_texts_of_no_scripts
set_option Elab.async false
set_option linter.all false
set_option maxRecDepth 100000
set_option maxHeartbeats 4000000
namespace OG
open PySem PySem.Spec PyProof.Rows L2
def top (i : Nat) : Stmt := PySem.Challenge.pw_opengates_k10_texts_of_no_scripts.main.body.getD i (.Pass ⟨0, 0, 0, 0⟩)
abbrev s_GateError_init : Stmt := inClass (top 6) 0
theorem sc_GateError_init : FnScope ["self", "value"] ["self", "value"] (defScope s_GateError_init) := ⟨rfl, rfl, rfl, by decide +kernel, rfl, by decide +kernel, by decide +kernel⟩
abbrev s_integer_of : Stmt := top 17
theorem sc_integer_of : FnScope ["word", "most", "figures"] ["word", "most"] (defScope s_integer_of) := ⟨rfl, rfl, rfl, by decide +kernel, rfl, by decide +kernel, by decide +kernel⟩
abbrev s_is_letters : Stmt := top 18
theorem sc_is_letters : FnScope ["word", "most"] ["word", "most"] (defScope s_is_letters) := ⟨rfl, rfl, rfl, by decide +kernel, rfl, by decide +kernel, by decide +kernel⟩
abbrev s_is_line_name : Stmt := top 19
theorem sc_is_line_name : FnScope ["word", "letters"] ["word"] (defScope s_is_line_name) := ⟨rfl, rfl, rfl, by decide +kernel, rfl, by decide +kernel, by decide +kernel⟩
abbrev s_gate_of : Stmt := top 20
theorem sc_gate_of : FnScope ["word"] ["word"] (defScope s_gate_of) := ⟨rfl, rfl, rfl, by decide +kernel, rfl, by decide +kernel, by decide +kernel⟩
abbrev s_factor_of : Stmt := top 21
theorem sc_factor_of : FnScope ["word", "before", "slash", "behind", "top", "bottom"] ["word"] (defScope s_factor_of) := ⟨rfl, rfl, rfl, by decide +kernel, rfl, by decide +kernel, by decide +kernel⟩
abbrev s_is_of : Stmt := top 23
theorem sc_is_of : FnScope ["word", "signs", "sign"] ["word", "signs"] (defScope s_is_of) := ⟨rfl, rfl, rfl, by decide +kernel, rfl, by decide +kernel, by decide +kernel⟩
abbrev s_read_line : Stmt := top 26
theorem sc_read_line : FnScope ["text", "gates", "words", "name", "told", "form", "parts", "own"] ["text", "gates"] (defScope s_read_line) := ⟨rfl, rfl, rfl, by decide +kernel, rfl, by decide +kernel, by decide +kernel⟩
abbrev s_read_form : Stmt := top 27
theorem sc_read_form : FnScope ["words", "gates", "head"] ["words", "gates"] (defScope s_read_form) := ⟨rfl, rfl, rfl, by decide +kernel, rfl, by decide +kernel, by decide +kernel⟩
abbrev s_read_gates : Stmt := top 28
theorem sc_read_gates : FnScope ["words", "found", "word"] ["words"] (defScope s_read_gates) := ⟨rfl, rfl, rfl, by decide +kernel, rfl, by decide +kernel, by decide +kernel⟩
abbrev s_read_one : Stmt := top 33
theorem sc_read_one : FnScope ["words", "found"] ["words"] (defScope s_read_one) := ⟨rfl, rfl, rfl, by decide +kernel, rfl, by decide +kernel, by decide +kernel⟩
abbrev s_read_road : Stmt := top 34
theorem sc_read_road : FnScope ["words", "start", "end"] ["words"] (defScope s_read_road) := ⟨rfl, rfl, rfl, by decide +kernel, rfl, by decide +kernel, by decide +kernel⟩
abbrev s_read_product : Stmt := top 35
theorem sc_read_product : FnScope ["words", "gates", "one", "other"] ["words", "gates"] (defScope s_read_product) := ⟨rfl, rfl, rfl, by decide +kernel, rfl, by decide +kernel, by decide +kernel⟩
abbrev s_read_close : Stmt := top 36
theorem sc_read_close : FnScope ["words", "gates", "gate", "name", "left"] ["words", "gates"] (defScope s_read_close) := ⟨rfl, rfl, rfl, by decide +kernel, rfl, by decide +kernel, by decide +kernel⟩
abbrev s_read_turn : Stmt := top 37
theorem sc_read_turn : FnScope ["words", "gates", "one", "other", "name", "turned", "gate"] ["words", "gates"] (defScope s_read_turn) := ⟨rfl, rfl, rfl, by decide +kernel, rfl, by decide +kernel, by decide +kernel⟩
abbrev s_read_add : Stmt := top 38
theorem sc_read_add : FnScope ["words", "gates", "factors", "names", "own", "word", "name"] ["words", "gates"] (defScope s_read_add) := ⟨rfl, rfl, rfl, by decide +kernel, rfl, by decide +kernel, by decide +kernel⟩
abbrev s_ascending : Stmt := top 39
theorem sc_ascending : FnScope ["found"] ["found"] (defScope s_ascending) := ⟨rfl, rfl, rfl, by decide +kernel, rfl, by decide +kernel, by decide +kernel⟩
abbrev s_Script_init : Stmt := inClass (top 41) 0
theorem sc_Script_init : FnScope ["self", "text", "lines", "gates", "own", "line"] ["self", "text"] (defScope s_Script_init) := ⟨rfl, rfl, rfl, by decide +kernel, rfl, by decide +kernel, by decide +kernel⟩
abbrev s_read_script : Stmt := top 42
theorem sc_read_script : FnScope ["text", "rows", "lines", "gates", "number", "row", "line", "name", "form", "parts", "own"] ["text"] (defScope s_read_script) := ⟨rfl, rfl, rfl, by decide +kernel, rfl, by decide +kernel, by decide +kernel⟩
abbrev s_l_pot : Stmt := top 48
theorem sc_l_pot : FnScope ["script", "place", "cell", "own", "small"] ["script", "place"] (defScope s_l_pot) := ⟨rfl, rfl, rfl, by decide +kernel, rfl, by decide +kernel, by decide +kernel⟩
abbrev s_l_take : Stmt := top 49
theorem sc_l_take : FnScope ["pot", "upto", "digit", "prime", "blend"] ["pot", "upto"] (defScope s_l_take) := ⟨rfl, rfl, rfl, by decide +kernel, rfl, by decide +kernel, by decide +kernel⟩
abbrev s_l_of : Stmt := top 50
theorem sc_l_of : FnScope ["pot", "some"] ["pot", "some"] (defScope s_l_of) := ⟨rfl, rfl, rfl, by decide +kernel, rfl, by decide +kernel, by decide +kernel⟩
abbrev s_l_some : Stmt := top 51
theorem sc_l_some : FnScope ["pot", "pool", "many", "left", "found", "lap"] ["pot", "pool", "many"] (defScope s_l_some) := ⟨rfl, rfl, rfl, by decide +kernel, rfl, by decide +kernel, by decide +kernel⟩
abbrev s_l_cells : Stmt := top 52
theorem sc_l_cells : FnScope ["script", "most"] ["script", "most"] (defScope s_l_cells) := ⟨rfl, rfl, rfl, by decide +kernel, rfl, by decide +kernel, by decide +kernel⟩
abbrev s_l_heard : Stmt := top 53
theorem sc_l_heard : FnScope ["call", "caught", "back", "error"] ["call"] (defScope s_l_heard) := ⟨rfl, rfl, rfl, by decide +kernel, rfl, by decide +kernel, by decide +kernel⟩
abbrev s_l_num : Stmt := top 55
theorem sc_l_num : FnScope ["by", "top", "bottom", "one", "other"] ["by", "top", "bottom"] (defScope s_l_num) := ⟨rfl, rfl, rfl, by decide +kernel, rfl, by decide +kernel, by decide +kernel⟩
abbrev s_l_book_names : Stmt := top 56
theorem sc_l_book_names : FnScope ["pot", "many", "at", "is_alike", "letters", "tellings", "long", "base", "found", "telling", "lap"] ["pot", "many"] (defScope s_l_book_names) := ⟨rfl, rfl, rfl, by decide +kernel, rfl, by decide +kernel, by decide +kernel⟩
abbrev s_l_script_line_gates : Stmt := top 57
theorem sc_l_script_line_gates : FnScope ["known", "form", "parts", "both", "swapped", "gate"] ["known", "form", "parts"] (defScope s_l_script_line_gates) := ⟨rfl, rfl, rfl, by decide +kernel, rfl, by decide +kernel, by decide +kernel⟩
abbrev s_l_script_gates : Stmt := top 58
theorem sc_l_script_gates : FnScope ["lines", "known", "name", "form", "parts"] ["lines"] (defScope s_l_script_gates) := ⟨rfl, rfl, rfl, by decide +kernel, rfl, by decide +kernel, by decide +kernel⟩
abbrev s_l_script_factor_text : Stmt := top 59
theorem sc_l_script_factor_text : FnScope ["factor", "top", "bottom"] ["factor"] (defScope s_l_script_factor_text) := ⟨rfl, rfl, rfl, by decide +kernel, rfl, by decide +kernel, by decide +kernel⟩
abbrev s_l_script_line_text : Stmt := top 60
theorem sc_l_script_line_text : FnScope ["line", "name", "form", "parts", "words", "part"] ["line"] (defScope s_l_script_line_text) := ⟨rfl, rfl, rfl, by decide +kernel, rfl, by decide +kernel, by decide +kernel⟩
abbrev s_l_script_text : Stmt := top 61
theorem sc_l_script_text : FnScope ["lines", "line"] ["lines"] (defScope s_l_script_text) := ⟨rfl, rfl, rfl, by decide +kernel, rfl, by decide +kernel, by decide +kernel⟩
abbrev s_l_script_is_word : Stmt := top 62
theorem sc_l_script_is_word : FnScope ["word", "most", "sign"] ["word", "most"] (defScope s_l_script_is_word) := ⟨rfl, rfl, rfl, by decide +kernel, rfl, by decide +kernel, by decide +kernel⟩
abbrev s_l_script_is_name : Stmt := top 63
theorem sc_l_script_is_name : FnScope ["word", "letters"] ["word"] (defScope s_l_script_is_name) := ⟨rfl, rfl, rfl, by decide +kernel, rfl, by decide +kernel, by decide +kernel⟩
abbrev s_l_script_integer : Stmt := top 64
theorem sc_l_script_integer : FnScope ["word", "figures", "sign"] ["word"] (defScope s_l_script_integer) := ⟨rfl, rfl, rfl, by decide +kernel, rfl, by decide +kernel, by decide +kernel⟩
abbrev s_l_script_factor : Stmt := top 65
theorem sc_l_script_factor : FnScope ["word", "top", "bar", "bottom", "one", "other"] ["word"] (defScope s_l_script_factor) := ⟨rfl, rfl, rfl, by decide +kernel, rfl, by decide +kernel, by decide +kernel⟩
abbrev s_l_script_gate : Stmt := top 66
theorem sc_l_script_gate : FnScope ["word"] ["word"] (defScope s_l_script_gate) := ⟨rfl, rfl, rfl, by decide +kernel, rfl, by decide +kernel, by decide +kernel⟩
abbrev s_l_script_parts : Stmt := top 67
theorem sc_l_script_parts : FnScope ["known", "form", "words", "gates", "is_right", "factors", "names", "word", "one", "other", "gate"] ["known", "form", "words"] (defScope s_l_script_parts) := ⟨rfl, rfl, rfl, by decide +kernel, rfl, by decide +kernel, by decide +kernel⟩
abbrev s_l_script_name : Stmt := top 68
theorem sc_l_script_name : FnScope ["pot", "at", "way"] ["pot", "at"] (defScope s_l_script_name) := ⟨rfl, rfl, rfl, by decide +kernel, rfl, by decide +kernel, by decide +kernel⟩
abbrev s_l_script_factor_drawn : Stmt := top 69
theorem sc_l_script_factor_drawn : FnScope ["pot", "by", "bottom"] ["pot", "by"] (defScope s_l_script_factor_drawn) := ⟨rfl, rfl, rfl, by decide +kernel, rfl, by decide +kernel, by decide +kernel⟩
abbrev s_l_script_simple : Stmt := top 70
theorem sc_l_script_simple : FnScope ["pot", "kinds", "width", "gates", "some", "one", "other", "gate"] ["pot", "kinds", "width"] (defScope s_l_script_simple) := ⟨rfl, rfl, rfl, by decide +kernel, rfl, by decide +kernel, by decide +kernel⟩
abbrev s_l_script_some : Stmt := top 71
theorem sc_l_script_some : FnScope ["pot", "pool", "many", "left", "found", "lap"] ["pot", "pool", "many"] (defScope s_l_script_some) := ⟨rfl, rfl, rfl, by decide +kernel, rfl, by decide +kernel, by decide +kernel⟩
abbrev s_l_script_try : Stmt := top 72
theorem sc_l_script_try : FnScope ["pot", "by", "width", "known", "form", "names", "near", "one", "other", "gate", "wide", "kin", "some", "far", "name", "lap", "spot"] ["pot", "by", "width", "known", "form"] (defScope s_l_script_try) := ⟨rfl, rfl, rfl, by decide +kernel, rfl, by decide +kernel, by decide +kernel⟩
abbrev s_l_script_size : Stmt := top 73
theorem sc_l_script_size : FnScope ["sizes", "form", "parts", "factor", "one"] ["sizes", "form", "parts"] (defScope s_l_script_size) := ⟨rfl, rfl, rfl, by decide +kernel, rfl, by decide +kernel, by decide +kernel⟩
abbrev s_l_script_drawn : Stmt := top 74
theorem sc_l_script_drawn : FnScope ["pot", "book", "width", "budget", "is_plain", "lines", "known", "sizes", "lap", "menu", "form", "found", "name"] ["pot", "book", "width", "budget", "is_plain"] (defScope s_l_script_drawn) := ⟨rfl, rfl, rfl, by decide +kernel, rfl, by decide +kernel, by decide +kernel⟩
abbrev s_l_around_line : Stmt := top 75
theorem sc_l_around_line : FnScope ["known", "row", "words", "is_right", "parts"] ["known", "row"] (defScope s_l_around_line) := ⟨rfl, rfl, rfl, by decide +kernel, rfl, by decide +kernel, by decide +kernel⟩
abbrev s_l_odd : Stmt := top 76
theorem sc_l_odd : FnScope ["pot", "some"] ["pot"] (defScope s_l_odd) := ⟨rfl, rfl, rfl, by decide +kernel, rfl, by decide +kernel, by decide +kernel⟩
abbrev s_l_bent_line : Stmt := top 77
theorem sc_l_bent_line : FnScope ["pot", "line", "words", "at", "some"] ["pot", "line"] (defScope s_l_bent_line) := ⟨rfl, rfl, rfl, by decide +kernel, rfl, by decide +kernel, by decide +kernel⟩
abbrev s_l_bent_text : Stmt := top 78
theorem sc_l_bent_text : FnScope ["pot", "text", "lines", "way", "at", "other", "first", "second", "place", "line"] ["pot", "text"] (defScope s_l_bent_text) := ⟨rfl, rfl, rfl, by decide +kernel, rfl, by decide +kernel, by decide +kernel⟩
abbrev s_l_wrong : Stmt := top 79
theorem sc_l_wrong : FnScope ["value", "rows", "known", "at", "row", "line"] ["value"] (defScope s_l_wrong) := ⟨rfl, rfl, rfl, by decide +kernel, rfl, by decide +kernel, by decide +kernel⟩
abbrev s_l_rests : Stmt := top 80
theorem sc_l_rests : FnScope ["a", "gates", "gate", "great", "found", "factor"] ["a", "gates"] (defScope s_l_rests) := ⟨rfl, rfl, rfl, by decide +kernel, rfl, by decide +kernel, by decide +kernel⟩
abbrev s_l_heads : Stmt := top 81
theorem sc_l_heads : FnScope [] [] (defScope s_l_heads) := ⟨rfl, rfl, rfl, by decide +kernel, rfl, by decide +kernel, by decide +kernel⟩
abbrev s_l_more_text : Stmt := top 82
theorem sc_l_more_text : FnScope ["pot", "lines", "known", "at", "a", "other", "head", "row", "rows", "line", "name"] ["pot", "lines"] (defScope s_l_more_text) := ⟨rfl, rfl, rfl, by decide +kernel, rfl, by decide +kernel, by decide +kernel⟩
abbrev s_l_right : Stmt := top 83
theorem sc_l_right : FnScope ["pot", "book", "lines", "text", "some", "due", "caught", "value", "lap"] ["pot"] (defScope s_l_right) := ⟨rfl, rfl, rfl, by decide +kernel, rfl, by decide +kernel, by decide +kernel⟩
abbrev s_law : Stmt := top 84
theorem sc_law : FnScope ["script", "place"] ["script"] (defScope s_law) := ⟨rfl, rfl, rfl, by decide +kernel, rfl, by decide +kernel, by decide +kernel⟩
structure Txt (K : PySem.W.Frag) (mg : Str → Option Value) where
  f_GateError_init : Addr
  fd_GateError_init : FuncData
  F_GateError_init : Fun K "__init__" "GateError.__init__" s_GateError_init f_GateError_init fd_GateError_init
  b_GateError_init : Binds K fd_GateError_init ["self", "value"] []
  f_integer_of : Addr
  fd_integer_of : FuncData
  F_integer_of : Fun K "integer_of" "integer_of" s_integer_of f_integer_of fd_integer_of
  b_integer_of : Binds K fd_integer_of ["word", "most"] []
  g_integer_of : mg "integer_of" = some (.ref f_integer_of)
  f_is_letters : Addr
  fd_is_letters : FuncData
  F_is_letters : Fun K "is_letters" "is_letters" s_is_letters f_is_letters fd_is_letters
  b_is_letters : Binds K fd_is_letters ["word", "most"] []
  g_is_letters : mg "is_letters" = some (.ref f_is_letters)
  f_is_line_name : Addr
  fd_is_line_name : FuncData
  F_is_line_name : Fun K "is_line_name" "is_line_name" s_is_line_name f_is_line_name fd_is_line_name
  b_is_line_name : Binds K fd_is_line_name ["word"] []
  g_is_line_name : mg "is_line_name" = some (.ref f_is_line_name)
  f_gate_of : Addr
  fd_gate_of : FuncData
  F_gate_of : Fun K "gate_of" "gate_of" s_gate_of f_gate_of fd_gate_of
  b_gate_of : Binds K fd_gate_of ["word"] []
  g_gate_of : mg "gate_of" = some (.ref f_gate_of)
  f_factor_of : Addr
  fd_factor_of : FuncData
  F_factor_of : Fun K "factor_of" "factor_of" s_factor_of f_factor_of fd_factor_of
  b_factor_of : Binds K fd_factor_of ["word"] []
  g_factor_of : mg "factor_of" = some (.ref f_factor_of)
  f_is_of : Addr
  fd_is_of : FuncData
  F_is_of : Fun K "_is_of" "_is_of" s_is_of f_is_of fd_is_of
  b_is_of : Binds K fd_is_of ["word", "signs"] []
  g_is_of : mg "_is_of" = some (.ref f_is_of)
  f_read_line : Addr
  fd_read_line : FuncData
  F_read_line : Fun K "read_line" "read_line" s_read_line f_read_line fd_read_line
  b_read_line : Binds K fd_read_line ["text", "gates"] []
  g_read_line : mg "read_line" = some (.ref f_read_line)
  f_read_form : Addr
  fd_read_form : FuncData
  F_read_form : Fun K "read_form" "read_form" s_read_form f_read_form fd_read_form
  b_read_form : Binds K fd_read_form ["words", "gates"] []
  g_read_form : mg "read_form" = some (.ref f_read_form)
  f_read_gates : Addr
  fd_read_gates : FuncData
  F_read_gates : Fun K "read_gates" "read_gates" s_read_gates f_read_gates fd_read_gates
  b_read_gates : Binds K fd_read_gates ["words"] []
  g_read_gates : mg "read_gates" = some (.ref f_read_gates)
  f_read_one : Addr
  fd_read_one : FuncData
  F_read_one : Fun K "_read_one" "_read_one" s_read_one f_read_one fd_read_one
  b_read_one : Binds K fd_read_one ["words"] []
  g_read_one : mg "_read_one" = some (.ref f_read_one)
  f_read_road : Addr
  fd_read_road : FuncData
  F_read_road : Fun K "_read_road" "_read_road" s_read_road f_read_road fd_read_road
  b_read_road : Binds K fd_read_road ["words"] []
  g_read_road : mg "_read_road" = some (.ref f_read_road)
  f_read_product : Addr
  fd_read_product : FuncData
  F_read_product : Fun K "_read_product" "_read_product" s_read_product f_read_product fd_read_product
  b_read_product : Binds K fd_read_product ["words", "gates"] []
  g_read_product : mg "_read_product" = some (.ref f_read_product)
  f_read_close : Addr
  fd_read_close : FuncData
  F_read_close : Fun K "_read_close" "_read_close" s_read_close f_read_close fd_read_close
  b_read_close : Binds K fd_read_close ["words", "gates"] []
  g_read_close : mg "_read_close" = some (.ref f_read_close)
  f_read_turn : Addr
  fd_read_turn : FuncData
  F_read_turn : Fun K "_read_turn" "_read_turn" s_read_turn f_read_turn fd_read_turn
  b_read_turn : Binds K fd_read_turn ["words", "gates"] []
  g_read_turn : mg "_read_turn" = some (.ref f_read_turn)
  f_read_add : Addr
  fd_read_add : FuncData
  F_read_add : Fun K "_read_add" "_read_add" s_read_add f_read_add fd_read_add
  b_read_add : Binds K fd_read_add ["words", "gates"] []
  g_read_add : mg "_read_add" = some (.ref f_read_add)
  f_ascending : Addr
  fd_ascending : FuncData
  F_ascending : Fun K "_ascending" "_ascending" s_ascending f_ascending fd_ascending
  b_ascending : Binds K fd_ascending ["found"] []
  g_ascending : mg "_ascending" = some (.ref f_ascending)
  f_Script_init : Addr
  fd_Script_init : FuncData
  F_Script_init : Fun K "__init__" "Script.__init__" s_Script_init f_Script_init fd_Script_init
  b_Script_init : Binds K fd_Script_init ["self", "text"] []
  f_read_script : Addr
  fd_read_script : FuncData
  F_read_script : Fun K "_read_script" "_read_script" s_read_script f_read_script fd_read_script
  b_read_script : Binds K fd_read_script ["text"] []
  g_read_script : mg "_read_script" = some (.ref f_read_script)
  f_l_pot : Addr
  fd_l_pot : FuncData
  F_l_pot : Fun K "_law_pot" "_law_pot" s_l_pot f_l_pot fd_l_pot
  b_l_pot : Binds K fd_l_pot ["script", "place"] []
  g_l_pot : mg "_law_pot" = some (.ref f_l_pot)
  f_l_take : Addr
  fd_l_take : FuncData
  F_l_take : Fun K "_law_take" "_law_take" s_l_take f_l_take fd_l_take
  b_l_take : Binds K fd_l_take ["pot", "upto"] []
  g_l_take : mg "_law_take" = some (.ref f_l_take)
  f_l_of : Addr
  fd_l_of : FuncData
  F_l_of : Fun K "_law_of" "_law_of" s_l_of f_l_of fd_l_of
  b_l_of : Binds K fd_l_of ["pot", "some"] []
  g_l_of : mg "_law_of" = some (.ref f_l_of)
  f_l_some : Addr
  fd_l_some : FuncData
  F_l_some : Fun K "_law_some" "_law_some" s_l_some f_l_some fd_l_some
  b_l_some : Binds K fd_l_some ["pot", "pool", "many"] []
  g_l_some : mg "_law_some" = some (.ref f_l_some)
  f_l_cells : Addr
  fd_l_cells : FuncData
  F_l_cells : Fun K "_law_cells" "_law_cells" s_l_cells f_l_cells fd_l_cells
  b_l_cells : Binds K fd_l_cells ["script", "most"] []
  g_l_cells : mg "_law_cells" = some (.ref f_l_cells)
  f_l_heard : Addr
  fd_l_heard : FuncData
  F_l_heard : Fun K "_law_heard" "_law_heard" s_l_heard f_l_heard fd_l_heard
  b_l_heard : Binds K fd_l_heard ["call"] []
  g_l_heard : mg "_law_heard" = some (.ref f_l_heard)
  f_l_num : Addr
  fd_l_num : FuncData
  F_l_num : Fun K "_law_num" "_law_num" s_l_num f_l_num fd_l_num
  b_l_num : Binds K fd_l_num ["by", "top", "bottom"] []
  g_l_num : mg "_law_num" = some (.ref f_l_num)
  f_l_book_names : Addr
  fd_l_book_names : FuncData
  F_l_book_names : Fun K "_law_book_names" "_law_book_names" s_l_book_names f_l_book_names fd_l_book_names
  b_l_book_names : Binds K fd_l_book_names ["pot", "many"] []
  g_l_book_names : mg "_law_book_names" = some (.ref f_l_book_names)
  f_l_script_line_gates : Addr
  fd_l_script_line_gates : FuncData
  F_l_script_line_gates : Fun K "_law_script_line_gates" "_law_script_line_gates" s_l_script_line_gates f_l_script_line_gates fd_l_script_line_gates
  b_l_script_line_gates : Binds K fd_l_script_line_gates ["known", "form", "parts"] []
  g_l_script_line_gates : mg "_law_script_line_gates" = some (.ref f_l_script_line_gates)
  f_l_script_gates : Addr
  fd_l_script_gates : FuncData
  F_l_script_gates : Fun K "_law_script_gates" "_law_script_gates" s_l_script_gates f_l_script_gates fd_l_script_gates
  b_l_script_gates : Binds K fd_l_script_gates ["lines"] []
  g_l_script_gates : mg "_law_script_gates" = some (.ref f_l_script_gates)
  f_l_script_factor_text : Addr
  fd_l_script_factor_text : FuncData
  F_l_script_factor_text : Fun K "_law_script_factor_text" "_law_script_factor_text" s_l_script_factor_text f_l_script_factor_text fd_l_script_factor_text
  b_l_script_factor_text : Binds K fd_l_script_factor_text ["factor"] []
  g_l_script_factor_text : mg "_law_script_factor_text" = some (.ref f_l_script_factor_text)
  f_l_script_line_text : Addr
  fd_l_script_line_text : FuncData
  F_l_script_line_text : Fun K "_law_script_line_text" "_law_script_line_text" s_l_script_line_text f_l_script_line_text fd_l_script_line_text
  b_l_script_line_text : Binds K fd_l_script_line_text ["line"] []
  g_l_script_line_text : mg "_law_script_line_text" = some (.ref f_l_script_line_text)
  f_l_script_text : Addr
  fd_l_script_text : FuncData
  F_l_script_text : Fun K "_law_script_text" "_law_script_text" s_l_script_text f_l_script_text fd_l_script_text
  b_l_script_text : Binds K fd_l_script_text ["lines"] []
  g_l_script_text : mg "_law_script_text" = some (.ref f_l_script_text)
  f_l_script_is_word : Addr
  fd_l_script_is_word : FuncData
  F_l_script_is_word : Fun K "_law_script_is_word" "_law_script_is_word" s_l_script_is_word f_l_script_is_word fd_l_script_is_word
  b_l_script_is_word : Binds K fd_l_script_is_word ["word", "most"] []
  g_l_script_is_word : mg "_law_script_is_word" = some (.ref f_l_script_is_word)
  f_l_script_is_name : Addr
  fd_l_script_is_name : FuncData
  F_l_script_is_name : Fun K "_law_script_is_name" "_law_script_is_name" s_l_script_is_name f_l_script_is_name fd_l_script_is_name
  b_l_script_is_name : Binds K fd_l_script_is_name ["word"] []
  g_l_script_is_name : mg "_law_script_is_name" = some (.ref f_l_script_is_name)
  f_l_script_integer : Addr
  fd_l_script_integer : FuncData
  F_l_script_integer : Fun K "_law_script_integer" "_law_script_integer" s_l_script_integer f_l_script_integer fd_l_script_integer
  b_l_script_integer : Binds K fd_l_script_integer ["word"] []
  g_l_script_integer : mg "_law_script_integer" = some (.ref f_l_script_integer)
  f_l_script_factor : Addr
  fd_l_script_factor : FuncData
  F_l_script_factor : Fun K "_law_script_factor" "_law_script_factor" s_l_script_factor f_l_script_factor fd_l_script_factor
  b_l_script_factor : Binds K fd_l_script_factor ["word"] []
  g_l_script_factor : mg "_law_script_factor" = some (.ref f_l_script_factor)
  f_l_script_gate : Addr
  fd_l_script_gate : FuncData
  F_l_script_gate : Fun K "_law_script_gate" "_law_script_gate" s_l_script_gate f_l_script_gate fd_l_script_gate
  b_l_script_gate : Binds K fd_l_script_gate ["word"] []
  g_l_script_gate : mg "_law_script_gate" = some (.ref f_l_script_gate)
  f_l_script_parts : Addr
  fd_l_script_parts : FuncData
  F_l_script_parts : Fun K "_law_script_parts" "_law_script_parts" s_l_script_parts f_l_script_parts fd_l_script_parts
  b_l_script_parts : Binds K fd_l_script_parts ["known", "form", "words"] []
  g_l_script_parts : mg "_law_script_parts" = some (.ref f_l_script_parts)
  f_l_script_name : Addr
  fd_l_script_name : FuncData
  F_l_script_name : Fun K "_law_script_name" "_law_script_name" s_l_script_name f_l_script_name fd_l_script_name
  b_l_script_name : Binds K fd_l_script_name ["pot", "at"] []
  g_l_script_name : mg "_law_script_name" = some (.ref f_l_script_name)
  f_l_script_factor_drawn : Addr
  fd_l_script_factor_drawn : FuncData
  F_l_script_factor_drawn : Fun K "_law_script_factor_drawn" "_law_script_factor_drawn" s_l_script_factor_drawn f_l_script_factor_drawn fd_l_script_factor_drawn
  b_l_script_factor_drawn : Binds K fd_l_script_factor_drawn ["pot", "by"] []
  g_l_script_factor_drawn : mg "_law_script_factor_drawn" = some (.ref f_l_script_factor_drawn)
  f_l_script_simple : Addr
  fd_l_script_simple : FuncData
  F_l_script_simple : Fun K "_law_script_simple" "_law_script_simple" s_l_script_simple f_l_script_simple fd_l_script_simple
  b_l_script_simple : Binds K fd_l_script_simple ["pot", "kinds", "width"] []
  g_l_script_simple : mg "_law_script_simple" = some (.ref f_l_script_simple)
  f_l_script_some : Addr
  fd_l_script_some : FuncData
  F_l_script_some : Fun K "_law_script_some" "_law_script_some" s_l_script_some f_l_script_some fd_l_script_some
  b_l_script_some : Binds K fd_l_script_some ["pot", "pool", "many"] []
  g_l_script_some : mg "_law_script_some" = some (.ref f_l_script_some)
  f_l_script_try : Addr
  fd_l_script_try : FuncData
  F_l_script_try : Fun K "_law_script_try" "_law_script_try" s_l_script_try f_l_script_try fd_l_script_try
  b_l_script_try : Binds K fd_l_script_try ["pot", "by", "width", "known", "form"] []
  g_l_script_try : mg "_law_script_try" = some (.ref f_l_script_try)
  f_l_script_size : Addr
  fd_l_script_size : FuncData
  F_l_script_size : Fun K "_law_script_size" "_law_script_size" s_l_script_size f_l_script_size fd_l_script_size
  b_l_script_size : Binds K fd_l_script_size ["sizes", "form", "parts"] []
  g_l_script_size : mg "_law_script_size" = some (.ref f_l_script_size)
  f_l_script_drawn : Addr
  fd_l_script_drawn : FuncData
  F_l_script_drawn : Fun K "_law_script_drawn" "_law_script_drawn" s_l_script_drawn f_l_script_drawn fd_l_script_drawn
  b_l_script_drawn : Binds K fd_l_script_drawn ["pot", "book", "width", "budget", "is_plain"] []
  g_l_script_drawn : mg "_law_script_drawn" = some (.ref f_l_script_drawn)
  f_l_around_line : Addr
  fd_l_around_line : FuncData
  F_l_around_line : Fun K "_law_around_line" "_law_around_line" s_l_around_line f_l_around_line fd_l_around_line
  b_l_around_line : Binds K fd_l_around_line ["known", "row"] []
  g_l_around_line : mg "_law_around_line" = some (.ref f_l_around_line)
  f_l_odd : Addr
  fd_l_odd : FuncData
  F_l_odd : Fun K "_law_odd" "_law_odd" s_l_odd f_l_odd fd_l_odd
  b_l_odd : Binds K fd_l_odd ["pot"] []
  g_l_odd : mg "_law_odd" = some (.ref f_l_odd)
  f_l_bent_line : Addr
  fd_l_bent_line : FuncData
  F_l_bent_line : Fun K "_law_bent_line" "_law_bent_line" s_l_bent_line f_l_bent_line fd_l_bent_line
  b_l_bent_line : Binds K fd_l_bent_line ["pot", "line"] []
  g_l_bent_line : mg "_law_bent_line" = some (.ref f_l_bent_line)
  f_l_bent_text : Addr
  fd_l_bent_text : FuncData
  F_l_bent_text : Fun K "_law_bent_text" "_law_bent_text" s_l_bent_text f_l_bent_text fd_l_bent_text
  b_l_bent_text : Binds K fd_l_bent_text ["pot", "text"] []
  g_l_bent_text : mg "_law_bent_text" = some (.ref f_l_bent_text)
  f_l_wrong : Addr
  fd_l_wrong : FuncData
  F_l_wrong : Fun K "_law_wrong" "_law_wrong" s_l_wrong f_l_wrong fd_l_wrong
  b_l_wrong : Binds K fd_l_wrong ["value"] []
  g_l_wrong : mg "_law_wrong" = some (.ref f_l_wrong)
  f_l_rests : Addr
  fd_l_rests : FuncData
  F_l_rests : Fun K "_law_rests" "_law_rests" s_l_rests f_l_rests fd_l_rests
  b_l_rests : Binds K fd_l_rests ["a", "gates"] []
  g_l_rests : mg "_law_rests" = some (.ref f_l_rests)
  f_l_heads : Addr
  fd_l_heads : FuncData
  F_l_heads : Fun K "_law_heads" "_law_heads" s_l_heads f_l_heads fd_l_heads
  b_l_heads : Binds K fd_l_heads [] []
  g_l_heads : mg "_law_heads" = some (.ref f_l_heads)
  f_l_more_text : Addr
  fd_l_more_text : FuncData
  F_l_more_text : Fun K "_law_more_text" "_law_more_text" s_l_more_text f_l_more_text fd_l_more_text
  b_l_more_text : Binds K fd_l_more_text ["pot", "lines"] []
  g_l_more_text : mg "_law_more_text" = some (.ref f_l_more_text)
  f_l_right : Addr
  fd_l_right : FuncData
  F_l_right : Fun K "_law_right" "_law_right" s_l_right f_l_right fd_l_right
  b_l_right : Binds K fd_l_right ["pot"] []
  g_l_right : mg "_law_right" = some (.ref f_l_right)
  f_law : Addr
  fd_law : FuncData
  F_law : Fun K "law" "law" s_law f_law fd_law
  b_law : Binds K fd_law ["script"] []
  g_law : mg "law" = some (.ref f_law)
  n_ValueError : mg "ValueError" = none
  n_abs : mg "abs" = none
  n_all : mg "all" = none
  n_any : mg "any" = none
  n_bool : mg "bool" = none
  n_enumerate : mg "enumerate" = none
  n_int : mg "int" = none
  n_isinstance : mg "isinstance" = none
  n_len : mg "len" = none
  n_list : mg "list" = none
  n_max : mg "max" = none
  n_min : mg "min" = none
  n_range : mg "range" = none
  n_repr : mg "repr" = none
  n_set : mg "set" = none
  n_sorted : mg "sorted" = none
  n_str : mg "str" = none
  n_sum : mg "sum" = none
  n_tuple : mg "tuple" = none
  n_zip : mg "zip" = none
  m_LETTERS : ∃ u, mg "LETTERS" = some u ∧ RelV (.str "abcdefghijklmnopqrstuvwxyz") u
  m_FIGURES : ∃ u, mg "FIGURES" = some u ∧ RelV (.str "0123456789") u
  m_MOST_FIGURES : ∃ u, mg "MOST_FIGURES" = some u ∧ RelV (.int 1000) u
  a_NO_NAMES : Addr
  m_NO_NAMES : ∃ u, mg "NO_NAMES" = some u ∧ RelV (.ref a_NO_NAMES) u
  sq_NO_NAMES : ∀ H, SqT K H a_NO_NAMES ((["script", "around", "one", "road", "close", "turn", "add"] : List Str).map V.str)
  dig : PySem.W.nsIn K cStatics "sys.int_max_str_digits" = some none
  g_gcd : mg "gcd" = some (.builtin "math.gcd")
  c_GateError : Addr
  g_GateError : mg "GateError" = some (.ref c_GateError)
  c_Script : Addr
  g_Script : mg "Script" = some (.ref c_Script)
  c_BadScript : Addr
  g_BadScript : mg "BadScript" = some (.ref c_BadScript)
end OG
set_option Elab.async false
set_option linter.all false
set_option maxRecDepth 100000
set_option maxHeartbeats 4000000
namespace OG
open PySem PySem.Spec PyProof.Rows L2
section
variable {X : Cx}
def CPowW (i j : Int) : Prop := 0 ≤ j ∧ (Builtin.Int.intBits i : Int) * j ≤ 2 ^ 27
theorem op_powW : OpR X (binaryOp .Pow) (rI CPowW fun i j => .int (i ^ j.toNat)) := opI fun _ _ _ _ _ _ _ hc q => pow_int hc.1 hc.2 q
theorem pow_c {i j : Int} (h : (decide (0 ≤ j) && decide ((Builtin.Int.intBits i : Int) * j ≤ 2 ^ 27)) = true) : CPowW i j := by
  rw [Bool.and_eq_true, decide_eq_true_eq, decide_eq_true_eq] at h
  exact h
theorem pow_64 {i j : Int} (ha : i.natAbs < 2 ^ 64) (h0 : 0 ≤ j) (hn : j ≤ 1000000) : CPowW i j := ⟨h0, bits_mul_le ha h0 hn⟩
def repS (x : Str) (n : Int) : Str := if n < 1 then Str.empty else if (n == 1 || x.length == 0) = true then x else ⟨(List.replicate n.toNat x.cps).foldl (· ++ ·) #[]⟩
theorem op_mulS : OpR X (binaryOp .Mult) (fun x y H Q => ∃ (z : Str) (n : Int), x = .str z ∧ y = .int n ∧ 0 ≤ n ∧ n ≤ 100000 ∧ z.length ≤ 100 ∧ Q (.str (repS z n)) H) := by
  intro pins s σ H x y v u Q I rx ry h
  obtain ⟨z, n, rfl, rfl, h0, h1, h2, q⟩ := h
  obtain ⟨t, rfl⟩ := rx
  obtain ⟨t', rfl⟩ := ry
  have htl : Builtin.Str.tooLong (z.length * n.toNat) = false := by
    have e3 : z.length * n.toNat ≤ 100 * 100000 := Nat.mul_le_mul h2 (by omega)
    have e4 : z.length * n.toNat ≤ sizeLine := Nat.le_trans e3 (by decide)
    show decide (z.length * n.toNat > sizeLine) = false
    exact decide_eq_false (by omega)
  refine PySem.P.mul_str (by simp only [Bool.or_eq_false_iff, decide_eq_false_iff_not]; omega) (fun hn _ => ?_) (fun hn _ => ?_) ?_
  · have e1 : (2 : Int) ^ 63 - 1 ≥ 100 * n := by omega
    have e2 : (100 : Int) ≤ (2 ^ 63 - 1) / n := Int.le_ediv_of_mul_le (by omega) e1
    omega
  · exact htl
  · unfold repS at q
    by_cases c1 : n < 1
    · rw [if_pos c1] at q ⊢
      exact ⟨by decide, .str Str.empty, H, I.tok _, ⟨_, rfl⟩, q⟩
    · rw [if_neg c1] at q ⊢
      by_cases c2 : (n == 1 || z.length == 0) = true
      · rw [if_pos c2] at q ⊢
        exact ⟨.str z, H, I, ⟨_, rfl⟩, q⟩
      · rw [if_neg c2] at q ⊢
        exact ⟨fits_reps htl, .str _, H, I.tok _, ⟨_, rfl⟩, q⟩
end
/-! heaps -/
/-- all but p stays -/
def Kp (p : Addr) (H H' : Hp) : Prop := ∀ b o, b ≠ p → H b = some o → H' b = some o
theorem Kp.refl (p : Addr) (H : Hp) : Kp p H H := fun _ _ _ h => h
theorem Kp.trans {p : Addr} {H H1 H2 : Hp} (a : Kp p H H1) (b : Kp p H1 H2) : Kp p H H2 := fun c o n h => b c o n (a c o n h)
theorem Same.kp {p : Addr} {H H' : Hp} (s : Same H H') : Kp p H H' := fun b o _ h => s b o h
theorem same_new {H : Hp} {p : Addr} {o : HO} (h : H p = none) : Same H (upd H p o) := fun b x e => by
  rw [upd_ne (ne_of_none e h)]
  exact e
theorem kp_self {p : Addr} {H : Hp} {o : HO} : Kp p H (upd H p o) := fun b x n e => by
  rw [upd_ne n]
  exact e
/-- the pot at p, at least k takes left -/
def Pot (k : Nat) (H : Hp) (p : Addr) : Prop := ∃ a b c : Int, H p = some (.lst [.int a, .int b, .int c]) ∧ 0 ≤ a ∧ a < 2 ^ 1000 ∧ 0 ≤ b ∧ b < 2 ^ 61 ∧ 0 ≤ c ∧ c + k ≤ 1000000
theorem Pot.mono {k j : Nat} {H : Hp} {p : Addr} (h : Pot k H p) (e : j ≤ k) : Pot j H p := by
  obtain ⟨a, b, c, h1, h2, h3, h4, h5, h6, h7⟩ := h
  exact ⟨a, b, c, h1, h2, h3, h4, h5, h6, by omega⟩
theorem Pot.same {k : Nat} {H H' : Hp} {p : Addr} (h : Pot k H p) (s : Same H H') : Pot k H' p := by
  obtain ⟨a, b, c, h1, h2⟩ := h
  exact ⟨a, b, c, s _ _ h1, h2⟩
theorem Pot.ex {k : Nat} {H : Hp} {p : Addr} (h : Pot k H p) : ∃ o, H p = some o := by
  obtain ⟨a, b, c, h1, _⟩ := h
  exact ⟨_, h1⟩
/-- a draw's way: the pot has k left, all else stands -/
def Dr (p : Addr) (k : Nat) (H H' : Hp) : Prop := Kp p H H' ∧ Pot k H' p
end OG
set_option Elab.async false
set_option linter.all false
set_option maxRecDepth 100000
set_option maxHeartbeats 4000000
namespace OG
open PySem PySem.Spec PyProof.Rows L2
section
variable {P : Program} {w : World} {K : PySem.W.Frag} {mg : Str → Option Value} {base : Heap}
def spTake : Sp := fun vs H Q _ => ∃ (p : Addr) (u : Int) (k : Nat), vs = [.ref p, .int u] ∧ Pot (k + 1) H p ∧ 0 < u ∧ u < 2 ^ 60 ∧
  ∀ (r : Int) (H' : Hp), 0 ≤ r → r < u → Dr p k H H' → Q (.int r) H'
theorem rix {H : Hp} {p : Addr} {xs : List V} {i : Nat} {v : V} {Q : VK} (h : H p = some (.lst xs)) (hi : xs[i]? = some v) (q : Q v H) : rIxL K (.ref p) (.int (i : Int)) H Q :=
  ⟨p, xs, _, v, rfl, rfl, SqL.of h, atI_nat hi, q⟩
theorem pow3 {x : Int} (h : x.natAbs < 2 ^ 64) : CPowW x 3 := pow_64 h (by decide) (by decide)
theorem ok_l_take (T : Txt K mg) : FnOk P w K mg base CX0 1 T.f_l_take T.fd_l_take ["pot", "upto"] (spTake) := by
  refine T.F_l_take.ok sc_l_take (fun vs H Q E h => ?_) (fun cdv A outer s H vs Q E hr h => ?_)
  · obtain ⟨p, u, k, rfl, _⟩ := h
    rfl
  · obtain ⟨p, u, k, rfl, ⟨a, b, c, hp, a0, a1, b0, b1, c0, c1⟩, u0, u1, q⟩ := h
    refine ⟨_, (pss_cons (ps_if (pt_cmpR op_gt (pe_ix ix_list (pv 0) pe_int (fun _ _ => rfl)) pe_int (nomark _)) (pss_cons (ps_set (i := 2) sc_l_take.nd rfl (Or.inl rfl) (pe_op op_mod (pe_callTy call_int1 (by rfl) T.n_int (by decide +kernel) (pa_cons (pe_ix ix_list (pv 0) pe_int (fun _ _ => rfl)) pa_nil)) (pv 1)))
  (pss_cons (ps_asg (pe_op op_fdivW (pe_ix ix_list (pv 0) pe_int (fun _ _ => rfl)) (pv 1)) (pg_sub (pv 0) pe_int set_list))
  (pss_one (ps_ret (pv 2))))) pss_nil)
  (pss_cons (ps_asg (pe_op op_add (pe_ix ix_list (pv 0) pe_int (fun _ _ => rfl)) pe_int) (pg_sub (pv 0) pe_int set_list))
  (pss_cons (ps_set (i := 3) sc_l_take.nd rfl (Or.inl rfl) (pe_ix ix_list (pe_lst (pa_cons pe_int (pa_cons pe_int (pa_cons pe_int (pa_cons pe_int (pa_cons pe_int pa_nil)))))) (pe_op op_mod (pe_callTy call_int1 (by rfl) T.n_int (by decide +kernel) (pa_cons (pe_ix ix_list (pv 0) pe_int (fun _ _ => rfl)) pa_nil)) pe_int) (fun _ _ => rfl)))
  (pss_cons (ps_set (i := 4) sc_l_take.nd rfl (Or.inl rfl) (pe_op op_mod (pe_callTy call_int1 (by rfl) T.n_int (by decide +kernel) (pa_cons (pe_op op_powW (pe_callTy call_int1 (by rfl) T.n_int (by decide +kernel) (pa_cons (pe_op op_add (pe_op op_add (pe_ix ix_list (pv 0) pe_int (fun _ _ => rfl)) (pe_op op_mulW (pe_op op_mulW pe_int (pe_ix ix_list (pv 0) pe_int (fun _ _ => rfl))) (pe_ix ix_list (pv 0) pe_int (fun _ _ => rfl)))) pe_int) pa_nil)) pe_int) pa_nil)) (pv 3)))
  (pss_cons (ps_set (i := 4) sc_l_take.nd rfl (Or.inl rfl) (pe_op op_mod (pe_callTy call_int1 (by rfl) T.n_int (by decide +kernel) (pa_cons (pe_op op_mulW (pv 4) (pe_op op_add (pe_op op_mod (pe_callTy call_int1 (by rfl) T.n_int (by decide +kernel) (pa_cons (pv 4) pa_nil)) pe_int) (pe_op op_mulW pe_int (pe_ix ix_list (pv 0) pe_int (fun _ _ => rfl))))) pa_nil)) pe_int))
  (pss_one (ps_ret (pe_op op_mod (pe_callTy call_int1 (by rfl) T.n_int (by decide +kernel) (pa_cons (pe_op op_fdivW (pv 4) pe_int) pa_nil)) (pv 1))))))))), ?_⟩
    refine ⟨.ref p, rfl, p, _, 0, _, rfl, rfl, SqL.of hp, rfl, ?_⟩
    refine ⟨a, 0, rfl, rfl, _, rfl, ?_⟩
    refine ite2 (fun ha => ?_) (fun ha => ?_)
    · have ha : 0 < a := of_decide_eq_true ha
      refine ⟨.ref p, rfl, p, _, 0, _, rfl, rfl, SqL.of hp, rfl, ?_⟩
      refine .inl ⟨a, rfl, ?_⟩
      refine ⟨.int u, rfl, a, u, rfl, rfl, u0, ?_⟩
      refine ⟨.ref p, rfl, p, _, 0, _, rfl, rfl, SqL.of hp, rfl, ?_⟩
      refine ⟨.int u, rfl, a, u, rfl, rfl, wide_div (b := 60) u0 (by omega) (by decide) (by decide), ?_⟩
      refine ⟨.ref p, rfl, p, _, 0, 0, rfl, rfl, hp, rfl, ?_⟩
      refine ⟨_, rfl, ?_⟩
      refine q _ _ (Int.emod_nonneg _ (by omega)) (Int.emod_lt_of_pos _ u0) ⟨kp_self, a / u, b, c, upd_same, Int.ediv_nonneg a0 (by omega), ?_, b0, b1, c0, by omega⟩
      exact Int.lt_of_le_of_lt (Int.ediv_le_self _ a0) a1
    · refine ⟨.ref p, rfl, p, _, 2, _, rfl, rfl, SqL.of hp, rfl, ?_⟩
      refine ⟨c, 1, rfl, rfl, ?_⟩
      refine ⟨.ref p, rfl, p, _, 2, 2, rfl, rfl, hp, rfl, ?_⟩
      refine ⟨by decide, fun l hl => ?_⟩
      have npl : p ≠ l := fun e => by
        rw [← e, upd_same] at hl
        cases hl
      have hp1 : (upd (upd H p (.lst [.int a, .int b, .int (c + 1)])) l (.lst [.int 2147483647, .int 2147483629, .int 2147483587, .int 2147483579, .int 2147483563])) p = some (.lst [.int a, .int b, .int (c + 1)]) := by
        rw [upd_ne npl, upd_same]
      refine ⟨.ref p, rfl, p, _, 2, _, rfl, rfl, SqL.of hp1, rfl, ?_⟩
      refine .inl ⟨c + 1, rfl, ?_⟩
      refine ⟨c + 1, 5, rfl, rfl, (by show (0 : Int) < 5; decide), ?_⟩
      have h5 : ∃ (m : Nat) (pr : Int), (c + 1) % 5 = (m : Int) ∧ ([V.int 2147483647, .int 2147483629, .int 2147483587, .int 2147483579, .int 2147483563])[m]? = some (.int pr) ∧ 0 < pr ∧ pr < 2 ^ 31 := by
        have e0 := Int.emod_nonneg (c + 1) (show (5 : Int) ≠ 0 by decide)
        have e1 := Int.emod_lt_of_pos (c + 1) (show (0 : Int) < 5 by decide)
        rcases (show (c + 1) % 5 = 0 ∨ (c + 1) % 5 = 1 ∨ (c + 1) % 5 = 2 ∨ (c + 1) % 5 = 3 ∨ (c + 1) % 5 = 4 by omega) with e | e | e | e | e
        · exact ⟨0, _, e, rfl, by decide, by decide⟩
        · exact ⟨1, _, e, rfl, by decide, by decide⟩
        · exact ⟨2, _, e, rfl, by decide, by decide⟩
        · exact ⟨3, _, e, rfl, by decide, by decide⟩
        · exact ⟨4, _, e, rfl, by decide, by decide⟩
      obtain ⟨m, pr, em, hm, pr0, pr1⟩ := h5
      refine ⟨l, _, (m : Int), _, rfl, congrArg V.int em, SqL.of upd_same, atI_nat hm, ?_⟩
      refine ⟨.ref p, rfl, p, _, 1, _, rfl, rfl, SqL.of hp1, rfl, ?_⟩
      have hc2 : (c + 1) * (c + 1) ≤ 1000000 * 1000000 := Int.mul_le_mul (by omega) (by omega) (by omega) (by decide)
      have hc3 : 0 ≤ (c + 1) * (c + 1) := Int.mul_nonneg (by omega) (by omega)
      refine ⟨.ref p, rfl, p, _, 2, _, rfl, rfl, SqL.of hp1, rfl, ?_⟩
      refine ⟨_, _, rfl, rfl, wide_mul (a := 30) (b := 30) (by decide) (by omega) (by decide) (by decide) (by decide), ?_⟩
      refine ⟨.ref p, rfl, p, _, 2, _, rfl, rfl, SqL.of hp1, rfl, ?_⟩
      refine ⟨_, _, rfl, rfl, wide_mul (a := 60) (b := 30) (by omega) (by omega) (by decide) (by decide) (by decide), ?_⟩
      refine ⟨_, _, rfl, rfl, ?_⟩
      refine ⟨_, _, rfl, rfl, ?_⟩
      refine .inl ⟨_, rfl, ?_⟩
      refine ⟨_, _, rfl, rfl, pow3 ?_, ?_⟩
      · rw [Int.mul_assoc]
        omega
      refine .inl ⟨_, rfl, ?_⟩
      refine ⟨_, rfl, _, _, rfl, rfl, pr0, ?_⟩
      have xb : ∀ y : Int, (y % pr).natAbs < 2 ^ 60 := fun y => by
        have z1 := Int.emod_nonneg y (show pr ≠ 0 by omega)
        have z2 := Int.emod_lt_of_pos y pr0
        omega
      refine ⟨_, rfl, _, rfl, .inl ⟨_, rfl, ?_⟩⟩
      refine ⟨_, 11067, rfl, rfl, (by show (0 : Int) < 11067; decide), ?_⟩
      refine ⟨.ref p, rfl, p, _, 2, _, rfl, rfl, SqL.of hp1, rfl, ?_⟩
      refine ⟨_, _, rfl, rfl, wide_mul (a := 30) (b := 30) (by decide) (by omega) (by decide) (by decide) (by decide), ?_⟩
      refine ⟨_, _, rfl, rfl, ?_⟩
      refine ⟨_, _, rfl, rfl, wide_mul (a := 60) (b := 90) (xb _) (by omega) (by decide) (by decide) (by decide), ?_⟩
      refine .inl ⟨_, rfl, ?_⟩
      refine ⟨_, 2305843009213693907, rfl, rfl, (by show (0 : Int) < 2305843009213693907; decide), ?_⟩
      refine ⟨_, rfl, ?_⟩
      refine ⟨_, _, rfl, rfl, wide_div (b := 60) (by decide) (by decide) (by decide) (by decide), ?_⟩
      refine .inl ⟨_, rfl, ?_⟩
      refine ⟨.int u, rfl, _, _, rfl, rfl, u0, ?_⟩
      refine q _ _ (Int.emod_nonneg _ (by omega)) (Int.emod_lt_of_pos _ u0) ⟨?_, a, b, c + 1, hp1, a0, a1, b0, b1, by omega, by omega⟩
      intro z o nz hz
      have nzl : z ≠ l := fun e => by
        rw [← e, upd_ne nz, hz] at hl
        cases hl
      rw [upd_ne nzl, upd_ne nz]
      exact hz
end
end OG
set_option Elab.async false
set_option linter.all false
set_option maxRecDepth 100000
set_option maxHeartbeats 4000000
namespace OG
open PySem PySem.Spec PyProof.Rows L2
theorem Kp.seq {K : PySem.W.Frag} {p : Addr} {H H' : Hp} {a : Addr} {xs : List V} (e : Kp p H H') (n : a ≠ p) (h : SqL K H a xs) : SqL K H' a xs := by
  rcases h with (h | ⟨o, h⟩) | h
  · exact .inl (.inl (e _ _ n h))
  · exact .inl (.inr ⟨o, e _ _ n h⟩)
  · exact .inr h
theorem Kp.seqT {K : PySem.W.Frag} {p : Addr} {H H' : Hp} {a : Addr} {xs : List V} (e : Kp p H H') (n : a ≠ p) (h : SqT K H a xs) : SqT K H' a xs := by
  rcases h with (h | ⟨o, h⟩) | h
  · exact .inl (.inl (e _ _ n h))
  · exact .inl (.inr ⟨o, e _ _ n h⟩)
  · exact .inr h
theorem Pot.ne {k : Nat} {H : Hp} {p l : Addr} (h : Pot k H p) (n : H l = none) : l ≠ p := fun e => by
  obtain ⟨o, ho⟩ := h.ex
  rw [e, ho] at n
  cases n
theorem Pot.neT {k : Nat} {H : Hp} {p l : Addr} {xs : List V} (h : Pot k H p) (n : H l = some (.tup xs)) : l ≠ p := fun e => by
  obtain ⟨a, b, c, ho, _⟩ := h
  rw [e, ho] at n
  cases n
theorem Pot.neD {k : Nat} {H : Hp} {p l : Addr} {xs : List (Key × V)} (h : Pot k H p) (n : H l = some (.dK xs)) : l ≠ p := fun e => by
  obtain ⟨a, b, c, ho, _⟩ := h
  rw [e, ho] at n
  cases n
theorem Dr.start {k j : Nat} {H : Hp} {p : Addr} (h : Pot k H p) (e : j ≤ k) : Dr p j H H := ⟨Kp.refl _ _, h.mono e⟩
theorem Dr.trans {k j : Nat} {H H1 H2 : Hp} {p : Addr} (a : Dr p k H H1) (b : Dr p j H1 H2) : Dr p j H H2 := ⟨a.1.trans b.1, b.2⟩
theorem Dr.mono {k j : Nat} {H H1 : Hp} {p : Addr} (a : Dr p k H H1) (e : j ≤ k) : Dr p j H H1 := ⟨a.1, a.2.mono e⟩
theorem Dr.fr {k : Nat} {H H' : Hp} {p l : Addr} (d : Dr p k H H') (n : H' l = none) : H l = none := by
  cases e : H l with
  | none => rfl
  | some o =>
    rw [d.1 _ _ (d.2.ne n) e] at n
    cases n
theorem Dr.new {k : Nat} {H H1 : Hp} {p l : Addr} {o : HO} (d : Dr p k H H1) (n : H1 l = none) : Dr p k H (upd H1 l o) :=
  ⟨d.1.trans (Same.kp (same_new n)), d.2.same (same_new n)⟩
theorem Dr.mut {k : Nat} {H H1 : Hp} {p l : Addr} {o : HO} (d : Dr p k H H1) (n : H l = none) (e : l ≠ p) : Dr p k H (upd H1 l o) := by
  refine ⟨fun b x q h => ?_, ?_⟩
  · rw [upd_ne (ne_of_none h n)]
    exact d.1 b x q h
  · obtain ⟨a, b, c, h1, h2⟩ := d.2
    refine ⟨a, b, c, ?_, h2⟩
    rw [upd_ne e.symm]
    exact h1
theorem Dr.st {k : Nat} {H H1 : Hp} {p b : Addr} {o : HO} (d : Dr p k H H1) (n : b ≠ p) (h : H b = some o) : H1 b = some o := d.1 _ _ n h
section
variable {P : Program} {w : World} {K : PySem.W.Frag} {mg : Str → Option Value} {base : Heap}
def spOf (K : PySem.W.Frag) : Sp := fun vs H Q _ => ∃ (p l : Addr) (xs : List V) (k : Nat), vs = [.ref p, .ref l] ∧ Pot (k + 1) H p ∧ SqL K H l xs ∧ l ≠ p ∧ 0 < xs.length ∧ xs.length < 100000 ∧
  ∀ (i : Nat) (x : V) (H' : Hp), xs[i]? = some x → Dr p k H H' → Q x H'
theorem ok_l_of (T : Txt K mg) : FnOk P w K mg base CX0 2 T.f_l_of T.fd_l_of ["pot", "some"] (spOf K) := by
  refine T.F_l_of.ok sc_l_of (fun vs H Q E h => ?_) (fun cdv A outer s H vs Q E hr h => ?_)
  · obtain ⟨p, l, xs, k, rfl, _⟩ := h
    rfl
  · obtain ⟨p, l, xs, k, rfl, hP, hL, nlp, l0, l1, q⟩ := h
    refine ⟨_, (pss_one (ps_ret (pe_ix ix_list (pv 1) (pe_call (ok_l_take T) (hr.mono (by decide)) (by rfl) T.g_l_take T.F_l_take.kp T.b_l_take .nil pass0 (pa_cons (pv 0) (pa_cons (pe_callB call_len_seq (by rfl) T.n_len PySem.boot_len (pa_cons (pv 1) pa_nil)) pa_nil))) (fun _ _ => rfl)))), ?_⟩
    refine ⟨.ref l, rfl, .ref p, rfl, .ref l, rfl, l, _, rfl, .inl hL, ?_⟩
    refine ⟨p, xs.length, k, rfl, hP, by omega, by omega, fun r H' r0 r1 d => ?_⟩
    have hr1 : r.toNat < xs.length := by omega
    have hx : xs[r.toNat]? = some (xs[r.toNat]) := List.getElem?_eq_getElem hr1
    refine ⟨l, xs, (r.toNat : Int), _, rfl, congrArg V.int (by omega), d.1.seq nlp hL, atI_nat hx, q _ _ _ hx d⟩
theorem seq_nat {n k : Nat} (h : k < n) : seqIndex? (k : Int) n = some k := by
  have e0 : ¬ ((k : Int) < 0) := by omega
  have e1 : (k : Int) < (n : Int) := by omega
  have e2 : (0 : Int) ≤ (k : Int) := by omega
  simp only [seqIndex?, if_neg e0, e1, e2, decide_true, Bool.and_self, if_true, Int.toNat_natCast]
def spSome (K : PySem.W.Frag) : Sp := fun vs H Q _ => ∃ (p l : Addr) (xs : List V) (m k : Nat), vs = [.ref p, .ref l, .int (m : Int)] ∧ Pot (k + m) H p ∧ SqL K H l xs ∧ l ≠ p ∧ m ≤ xs.length ∧ xs.length < 1000 ∧
  ∀ (q : Addr) (ys zs : List V) (H' : Hp), ys.length = m → (ys ++ zs).Perm xs → Dr p k H H' → H q = none → q ≠ p → H' q = some (.lst ys) → Q (.ref q) H'
theorem perm_pop {α : Type} : ∀ {ls : List α} {k : Nat} {y : α}, ls[k]? = some y → (y :: ls.eraseIdx k).Perm ls
  | [], k, y, h => by simp at h
  | a :: r, 0, y, h => by
    have e : a = y := Option.some.inj h
    rw [e]
    exact List.Perm.refl _
  | a :: r, k + 1, y, h => by
    have ih := perm_pop (ls := r) (k := k) (y := y) h
    exact (List.Perm.swap a y _).trans (ih.cons a)
theorem ok_l_some (T : Txt K mg) : FnOk P w K mg base CX0 2 T.f_l_some T.fd_l_some ["pot", "pool", "many"] (spSome K) := by
  refine T.F_l_some.ok sc_l_some (fun vs H Q E h => ?_) (fun cdv A outer s H vs Q E hr h => ?_)
  · obtain ⟨p, l, xs, m, k, rfl, _⟩ := h
    rfl
  · obtain ⟨p, l, xs, m, k, rfl, hP, hL, nlp, hm, l1, q⟩ := h
    refine ⟨_, (pss_cons (ps_par (i := 3) (j := 4) (by rfl) sc_l_some.nd rfl rfl (by decide) rfl rfl (pa_cons (pe_callTy call_list_of (by rfl) T.n_list (by decide +kernel) (pa_cons (pv 1) pa_nil)) (pa_cons (pe_lst pa_nil) pa_nil)) (by rfl))
  (pss_cons (ps_for PassesOwn.never rfl (pi_range1 (by rfl) T.n_range (pa_cons (pv 2) pa_nil)) (pg_name (i := 5) sc_l_some.nd rfl (Or.inl rfl)) (pss_one (ps_expr (pe_bm PySem.F.plainAttrs_list PySem.F.slot_list_append PySem.F.type_list_append mt_append (pv 4) (pa_cons (pe_bm PySem.F.plainAttrs_list PySem.F.slot_list_pop PySem.F.type_list_pop mt_popAt (pv 3) (pa_cons (pe_call (ok_l_take T) (hr.mono (by decide)) (by rfl) T.g_l_take T.F_l_take.kp T.b_l_take .nil pass0 (pa_cons (pv 0) (pa_cons (pe_callB call_len_seq (by rfl) T.n_len PySem.boot_len (pa_cons (pv 3) pa_nil)) pa_nil))) pa_nil)) pa_nil)))))
  (pss_one (ps_ret (pv 4))))), ?_⟩
    refine ⟨.ref l, rfl, l, xs, rfl, .inl hL, fun e he => ?_⟩
    refine ⟨Nat.zero_le _, fun o ho => ?_⟩
    refine ⟨_, _, rfl, ?_⟩
    have ho' : H o = none := by
      cases z : H o with
      | none => rfl
      | some u =>
        rw [same_new he _ _ z] at ho
        cases ho
    have neo : o ≠ e := fun z => by
      rw [z, upd_same] at ho
      cases ho
    have nep : e ≠ p := hP.ne he
    have nop : o ≠ p := hP.ne ho'
    refine ⟨.int m, rfl, m, rfl, (by omega), (by omega), ?_⟩
    rw [show ((m : Int)).toNat = m from rfl]
    refine for_range (n := m) (fun i σ H' => ∃ (v : Option V) (ys ls : List V), σ = [some (.ref p), some (.ref l), some (.int m), some (.ref e), some (.ref o), v] ∧ i ≤ m ∧ Dr p (k + (m - i)) H H' ∧ H' e = some (.lst ls) ∧ H' o = some (.lst ys) ∧ (ys ++ ls).Perm xs ∧ ys.length = i)
      ⟨none, [], xs, rfl, Nat.zero_le _, ((Dr.start hP (by omega)).new he).new ho, by rw [upd_ne neo.symm, upd_same], upd_same, List.Perm.refl _, rfl⟩ ?_ ?_
    · rintro i σ H' hi ⟨v, ys, ls, rfl, _, d, h1, h2, pm, hl⟩
      have len := pm.length_eq
      rw [List.length_append] at len
      refine ⟨.ref o, rfl, .inl ⟨rfl, _, SqL.of h2⟩, .ref e, rfl, .inl ⟨rfl, _, SqL.of h1⟩, .ref p, rfl, .ref e, rfl, e, _, rfl, .inl (SqL.of h1), ?_⟩
      refine ⟨p, ls.length, k + (m - (i + 1)), rfl, d.2.mono (by omega), by omega, by omega, fun r H1 r0 r1 d1 => ?_⟩
      have hr1 : r.toNat < ls.length := by omega
      have hx : ls[r.toNat]? = some (ls[r.toNat]) := List.getElem?_eq_getElem hr1
      refine ⟨e, ls, r, r.toNat, _, rfl, rfl, d1.st nep h1, by omega, by omega, ?_, hx, ?_⟩
      · have z := seq_nat (n := ls.length) (k := r.toNat) hr1
        rw [show ((r.toNat : Nat) : Int) = r by omega] at z
        exact z
      refine ⟨o, ys, _, rfl, rfl, by rw [upd_ne neo]; exact d1.st nop h2, small1000 (by omega), ?_⟩
      refine ⟨_, ys ++ [ls[r.toNat]], ls.eraseIdx r.toNat, rfl, hi, (((d.trans d1).mut he nep).mut ho' nop), by rw [upd_ne neo.symm, upd_same], upd_same, ?_, by rw [List.length_append, hl]; rfl⟩
      rw [List.append_assoc]
      exact ((perm_pop hx).append_left ys).trans pm
    · rintro σ H' ⟨v, ys, ls, rfl, _, d, h1, h2, pm, hl⟩
      rw [Nat.sub_self] at d
      exact ⟨_, rfl, q o ys ls H' hl pm d ho' nop h2⟩
end
end OG
set_option Elab.async false
set_option linter.all false
set_option maxRecDepth 100000
set_option maxHeartbeats 4000000
namespace OG
open PySem PySem.Spec PyProof.Rows L2
def sgn (c : Nat) : V := .str ⟨#[c]⟩
def rListT : List V → Hp → VK → Prop := fun xs H Q => ∃ z : Str, xs = [.str z] ∧ z.length ≤ sizeLine ∧ ∀ q, H q = none → Q (.ref q) (upd H q (.lst (z.cps.toList.map sgn)))
theorem call_list_text {X : Cx} (hc : X.calm = true) : CallR X (.type "list") rListT := by
  intro pins s σ H xs us Q I r h
  obtain ⟨z, e, hz, q⟩ := h
  subst e
  obtain ⟨u, eu, rx⟩ := vals1 r
  subst eu
  obtain ⟨t, rfl⟩ := rx
  have hz' : z.cps.size ≤ sizeLine := hz
  refine PySem.call_list_str (hn := hz') (I.ok.hd hc) z t fun h' tk acc' c' hkeep hS hacc => ?_
  refine ⟨.ref s.heap.objs.size, upd H s.heap.objs.size (.lst (z.cps.toList.map sgn)), I.laid hkeep (Nat.le_refl _) (show ObjOk X.prog X.w _ _ _ (.lst (z.cps.toList.map sgn)) from ⟨?_, acc'.toList, c', ?_, ?_⟩), rfl, q _ (I.hok.fresh (Nat.le_refl _))⟩
  · rw [List.length_map, Array.length_toList]; exact hz'
  · have el : acc'.toList.length = acc'.size := by simp
    refine vals_of_at (by rw [List.length_map, el, hacc.1, Array.length_toList]) fun j x w h1 h2 => ?_
    have hi := hacc.2 j w (by rw [← Array.getElem?_toList]; exact h2)
    obtain ⟨c, u, hc1, rfl⟩ := hi
    rw [List.getElem?_map, Array.getElem?_toList, hc1] at h1
    have e1 : sgn c = x := Option.some.inj h1
    rw [← e1]
    exact ⟨u, rfl⟩
  · rw [Array.toArray_toList]; exact hS
end OG
set_option Elab.async false
set_option linter.all false
set_option maxRecDepth 100000
set_option maxHeartbeats 4000000
namespace OG
open PySem PySem.Spec PyProof.Rows L2
/-! names: mathematics -/
def mk (l : List Nat) : Str := ⟨l.toArray⟩
theorem mk_tl (l : List Nat) : (mk l).cps.toList = l := by simp [mk]
theorem mk_len (l : List Nat) : (mk l).length = l.length := by simp [mk, Str.length]
theorem tl_mk (z : Str) : mk z.cps.toList = z := by
  unfold mk
  rw [Array.toArray_toList]
theorem mk_inj {a b : List Nat} (h : mk a = mk b) : a = b := by
  have e := congrArg (fun z : Str => z.cps.toList) h
  simpa [mk] using e
theorem sgn_mk (c : Nat) : sgn c = .str (mk [c]) := rfl
theorem sgn_inj {a b : Nat} (h : sgn a = sgn b) : a = b := by
  have e := mk_inj (V.str.inj h)
  exact List.head_eq_of_cons_eq e
def abc : List Nat := [97, 98, 99, 100, 101, 102, 103, 104, 105, 106, 107, 108, 109, 110, 111, 112, 113, 114, 115, 116, 117, 118, 119, 120, 121, 122]
theorem abc_tl : ("abcdefghijklmnopqrstuvwxyz" : Str).cps.toList = abc := by decide +kernel
theorem map_sgn_pick : ∀ {ys : List V}, (∀ y ∈ ys, y ∈ abc.map sgn) → ∃ cs : List Nat, ys = cs.map sgn ∧ ∀ c ∈ cs, c ∈ abc
  | [], _ => ⟨[], rfl, fun _ h => by cases h⟩
  | y :: r, h => by
    obtain ⟨cs, e, k⟩ := map_sgn_pick (ys := r) fun z hz => h z (List.mem_cons_of_mem _ hz)
    obtain ⟨c, hc, hy⟩ := List.mem_map.mp (h y List.mem_cons_self)
    refine ⟨c :: cs, by rw [e, ← hy]; rfl, fun z hz => ?_⟩
    rcases List.mem_cons.mp hz with q | q
    · rw [q]; exact hc
    · exact k z q
theorem abc_nodup : (abc.map sgn).Nodup := by
  have h : abc.Nodup := by decide
  unfold List.Nodup at h ⊢
  rw [List.pairwise_map]
  exact h.imp fun n e => n (sgn_inj e)
theorem pick {ys zs : List V} (pm : (ys ++ zs).Perm (abc.map sgn)) : ∃ cs : List Nat, ys = cs.map sgn ∧ cs.Nodup ∧ ∀ c ∈ cs, c ∈ abc := by
  obtain ⟨cs, e, k⟩ := map_sgn_pick (ys := ys) fun y hy => pm.mem_iff.mp (List.mem_append_left _ hy)
  have nd : (ys ++ zs).Nodup := pm.nodup_iff.mpr abc_nodup
  have n1 : ys.Nodup := (List.nodup_append.mp nd).1
  rw [e] at n1
  refine ⟨cs, e, ?_, k⟩
  unfold List.Nodup at n1 ⊢
  rw [List.pairwise_map] at n1
  exact n1.imp fun n q => n (congrArg sgn q)
/-- a NAME of a book -/
def IsNm (z : Str) : Prop := 1 ≤ z.length ∧ z.length ≤ 4 ∧ ∀ c ∈ z.cps.toList, c ∈ abc
def nm (bs : List Nat) (at_ c : Nat) : List Nat := bs.take at_ ++ c :: bs.drop (at_ + 1)
theorem nm_len {bs : List Nat} {a c : Nat} (h : a < bs.length) : (nm bs a c).length = bs.length := by
  unfold nm
  rw [List.length_append, List.length_cons, List.length_take, List.length_drop]
  omega
theorem nm_at {bs : List Nat} {a c : Nat} (h : a < bs.length) : (nm bs a c)[a]? = some c := by
  unfold nm
  rw [List.getElem?_append_right (by rw [List.length_take]; omega), List.length_take, show a - min a bs.length = 0 by omega]
  rfl
theorem nm_mem {bs : List Nat} {a c z : Nat} (hb : ∀ x ∈ bs, x ∈ abc) (hc : c ∈ abc) (h : z ∈ nm bs a c) : z ∈ abc := by
  unfold nm at h
  rcases List.mem_append.mp h with h | h
  · exact hb _ (List.mem_of_mem_take h)
  · rcases List.mem_cons.mp h with h | h
    · rw [h]; exact hc
    · exact hb _ (List.mem_of_mem_drop h)
theorem nm_is {bs : List Nat} {a c : Nat} (hb : ∀ x ∈ bs, x ∈ abc) (hc : c ∈ abc) (h : a < bs.length) (h4 : bs.length ≤ 4) : IsNm (mk (nm bs a c)) := by
  refine ⟨?_, ?_, fun z hz => ?_⟩
  · rw [mk_len, nm_len h]; omega
  · rw [mk_len, nm_len h]; exact h4
  · rw [mk_tl] at hz
    exact nm_mem hb hc hz
theorem joinL_ones : ∀ l : List Nat, TL.joinL [] (l.map fun c => [c]) = l
  | [] => rfl
  | [_] => rfl
  | a :: b :: r => by
    show [a] ++ ([] ++ TL.joinL [] ((b :: r).map fun c => [c])) = a :: b :: r
    rw [joinL_ones (b :: r)]
    rfl
theorem join_ones (l : List Nat) : Txt.join "" (l.map fun c => mk [c]) = mk l := by
  have e := TL.tl_join "" (l.map fun c => mk [c])
  have e2 : (l.map fun c => mk [c]).map TL.tl = l.map fun c => [c] := by
    rw [List.map_map]
    rfl
  rw [e2] at e
  have e3 : TL.tl "" = [] := rfl
  rw [e3, joinL_ones] at e
  have e4 := (congrArg TL.tl (TL.join_eq "" (l.map fun c => mk [c]))).trans e
  exact TL.ext_tl (e4.trans (mk_tl l).symm)
theorem cut_to {xs : List V} {n : Nat} : cutV xs none (some (n : Int)) = xs.take n := by
  unfold cutV
  rw [HT.sIx_none, HT.sIx_nat, List.drop_zero, Nat.sub_zero]
  rw [List.take_eq_take_iff]
  omega
theorem cut_from {xs : List V} {n : Nat} : cutV xs (some (n : Int)) none = xs.drop n := by
  unfold cutV
  rw [HT.sIx_none, HT.sIx_nat]
  by_cases h : n ≤ xs.length
  · rw [Nat.min_eq_left h]
    exact List.take_of_length_le (by rw [List.length_drop]; exact Nat.le_refl _)
  · rw [Nat.min_eq_right (by omega), List.drop_eq_nil_of_le (Nat.le_refl _), List.drop_eq_nil_of_le (by omega)]
    simp
/-- what book_names tells -/
structure Nms (ns : List Str) (m : Nat) : Prop where
  len : ns.length = m
  nd : ns.Nodup
  is : ∀ z ∈ ns, IsNm z
theorem nms_of {cs : List Nat} {ns : List Str} {a : Nat} (h1 : cs.Nodup) (h2 : ns.length = cs.length) (h3 : ∀ (i : Nat) (z : Str), ns[i]? = some z → z.cps.toList[a]? = cs[i]?) (h4 : ∀ z ∈ ns, IsNm z) : Nms ns cs.length := by
  refine ⟨h2, ?_, h4⟩
  have e : ns.map (fun z => z.cps.toList[a]?) = cs.map some := by
    refine List.ext_getElem? fun i => ?_
    rw [List.getElem?_map, List.getElem?_map]
    cases q : ns[i]? with
    | none =>
      have q1 : cs[i]? = none := by
        rw [List.getElem?_eq_none_iff] at q ⊢
        omega
      rw [q1]
      rfl
    | some z =>
      have q1 : i < cs.length := by
        have := (List.getElem?_eq_some_iff.mp q).1
        omega
      show some (z.cps.toList[a]?) = _
      rw [h3 i z q, List.getElem?_eq_getElem q1]
      rfl
  have n2 : (ns.map (fun z => z.cps.toList[a]?)).Nodup := by
    rw [e]
    unfold List.Nodup at h1 ⊢
    rw [List.pairwise_map]
    exact h1.imp fun n q => n (Option.some.inj q)
  unfold List.Nodup at n2 ⊢
  rw [List.pairwise_map] at n2
  exact n2.imp fun n q => n (congrArg (fun z : Str => z.cps.toList[a]?) q)
end OG
set_option Elab.async false
set_option linter.all false
set_option maxRecDepth 100000
set_option maxHeartbeats 4000000
namespace OG
open PySem PySem.Spec PyProof.Rows L2
section
variable {P : Program} {w : World} {K : PySem.W.Frag} {mg : Str → Option Value} {base : Heap}
def spNames : Sp := fun vs H Q _ => ∃ (p : Addr) (m k : Nat), vs = [.ref p, .int (m : Int)] ∧ Pot (k + 100) H p ∧ m ≤ 5 ∧
  ∀ (q : Addr) (ns : List Str) (H' : Hp), Nms ns m → Dr p k H H' → H q = none → q ≠ p → H' q = some (.tup (ns.map V.str)) → Q (.ref q) H'
theorem ne_new {H : Hp} {p l : Addr} {o : HO} (h : (upd H l o) p = none) : p ≠ l := fun z => by
  rw [z, upd_same] at h
  cases h
theorem ok_l_book_names (T : Txt K mg) : FnOk P w K mg base CX0 3 T.f_l_book_names T.fd_l_book_names ["pot", "many"] (spNames) := by
  refine T.F_l_book_names.ok sc_l_book_names (fun vs H Q E h => ?_) (fun cdv A outer s H vs Q E hr h => ?_)
  · obtain ⟨p, m, k, rfl, _⟩ := h
    rfl
  · obtain ⟨p, m, k, rfl, hP, hm, q⟩ := h
    refine ⟨_, (pss_cons (ps_par (i := 2) (j := 3) (by rfl) sc_l_book_names.nd rfl rfl (by decide) rfl rfl (pa_cons (pe_call (ok_l_take T) (hr.mono (by decide)) (by rfl) T.g_l_take T.F_l_take.kp T.b_l_take .nil pass0 (pa_cons (pv 0) (pa_cons pe_int pa_nil))) (pa_cons (pe_cmpR op_eq (pe_call (ok_l_take T) (hr.mono (by decide)) (by rfl) T.g_l_take T.F_l_take.kp T.b_l_take .nil pass0 (pa_cons (pv 0) (pa_cons pe_int pa_nil))) pe_int (nomark _)) pa_nil)) (by rfl))
  (pss_cons (ps_set (i := 4) sc_l_book_names.nd rfl (Or.inr rfl) (pe_callTy (call_list_text rfl) (by rfl) T.n_list (by decide +kernel) (pa_cons pe_str pa_nil)))
  (pss_cons (ps_par (i := 5) (j := 6) (by rfl) sc_l_book_names.nd rfl rfl (by decide) rfl rfl (pa_cons (pe_call (ok_l_some T) (hr.mono (by decide)) (by rfl) T.g_l_some T.F_l_some.kp T.b_l_some .nil pass0 (pa_cons (pv 0) (pa_cons (pv 4) (pa_cons (pv 1) pa_nil)))) (pa_cons (pe_op op_add (pe_op op_add (pv 2) pe_int) (pe_call (ok_l_take T) (hr.mono (by decide)) (by rfl) T.g_l_take T.F_l_take.kp T.b_l_take .nil pass0 (pa_cons (pv 0) (pa_cons (pe_op op_sub pe_int (pv 2)) pa_nil)))) pa_nil)) (by rfl))
  (pss_cons (ps_par (i := 7) (j := 8) (by rfl) sc_l_book_names.nd rfl rfl (by decide) rfl rfl (pa_cons (pe_lc (own := [("lap", 10)]) (g := gName 10) (by rfl) sc_l_book_names.nd (pi_range1 (by rfl) T.n_range (pa_cons (pv 6) pa_nil)) (blkOk_by (own := [("lap", 10)]) (by rfl)) (fun _ _ _ _ _ => (pg_name (i := 10) sc_l_book_names.nd rfl (Or.inl rfl))) (fun _ _ _ _ _ => pts_nil) (fun _ _ _ _ _ => (pe_call (ok_l_of T) (hr.mono (by decide)) (by rfl) T.g_l_of T.F_l_of.kp T.b_l_of .nil pass0 (pa_cons (pv 0) (pa_cons (pv 4) pa_nil))))) (pa_cons (pe_lst pa_nil) pa_nil)) (by rfl))
  (pss_cons (ps_for PassesOwn.never rfl (pi_list (pv 5)) (pg_name (i := 9) sc_l_book_names.nd rfl (Or.inl rfl)) (pss_cons (ps_if (pt_not (pt_val (pv 3))) (pss_one (ps_setLc (i := 7) (own := [("lap", 10)]) (g := gName 10) (by rfl) sc_l_book_names.nd rfl rfl (sw_true rfl rfl rfl (by decide +kernel)) (pi_range1 (by rfl) T.n_range (pa_cons (pe_op op_add (pe_op op_add (pv 2) pe_int) (pe_call (ok_l_take T) (hr.mono (by decide)) (by rfl) T.g_l_take T.F_l_take.kp T.b_l_take .nil pass0 (pa_cons (pv 0) (pa_cons (pe_op op_sub pe_int (pv 2)) pa_nil)))) pa_nil)) (blkOk_by (own := [("lap", 10)]) (by rfl)) (fun _ _ _ _ _ => (pg_name (i := 10) sc_l_book_names.nd rfl (Or.inl rfl))) (fun _ _ _ _ _ => pts_nil) (fun _ _ _ _ _ => (pe_call (ok_l_of T) (hr.mono (by decide)) (by rfl) T.g_l_of T.F_l_of.kp T.b_l_of .nil pass0 (pa_cons (pv 0) (pa_cons (pv 4) pa_nil)))))) pss_nil)
  (pss_one (ps_expr (pe_bm PySem.F.plainAttrs_list PySem.F.slot_list_append PySem.F.type_list_append mt_append (pv 8) (pa_cons (pe_join pe_str (pe_op op_cat (pe_op op_cat (pe_slice sl_list (pv 7) po_none (po_some (pv 2))) (pe_lst (pa_cons (pv 9) pa_nil))) (pe_slice sl_list (pv 7) (po_some (pe_op op_add (pv 2) pe_int)) po_none))) pa_nil))))))
  (pss_one (ps_ret (pe_callTy call_tuple_of (by rfl) T.n_tuple (by decide +kernel) (pa_cons (pv 8) pa_nil))))))))), ?_⟩
    refine ⟨.ref p, rfl, p, 4, k + 99, rfl, hP, by decide, by decide, fun ai H1 a0 a1 d1 => ?_⟩
    refine ⟨.ref p, rfl, p, 2, k + 98, rfl, d1.2, by decide, by decide, fun r2 H2 _ _ d2 => ?_⟩
    refine ⟨rfl, _, _, rfl, ?_⟩
    have d2 := d1.trans d2
    obtain ⟨a, rfl⟩ : ∃ a : Nat, ai = (a : Int) := ⟨ai.toNat, by omega⟩
    generalize decide (V.int r2 = V.int 0) = alike
    refine ⟨_, rfl, by decide, fun lt hlt => ?_⟩
    rw [abc_tl]
    have d3 := d2.new (o := .lst (abc.map sgn)) hlt
    have nlp : lt ≠ p := d2.2.ne hlt
    refine ⟨.ref p, rfl, .ref lt, rfl, .int m, rfl, p, lt, abc.map sgn, m, k + 93, rfl, d3.2.mono (by omega), SqL.of upd_same, nlp, Nat.le_trans hm (by decide), by decide, fun tq ys zs H4 hl pm d4 ntq nqp htq => ?_⟩
    obtain ⟨cs, rfl, nd, hcs⟩ := pick pm
    rw [List.length_map] at hl
    have d34 := d3.trans d4
    refine ⟨.int a, rfl, _, _, rfl, rfl, .ref p, rfl, .int a, rfl, _, _, rfl, rfl, p, 4 - (a : Int), k + 92, rfl, d4.2, by omega, by omega, fun b H5 b0 b1 d5 => ?_⟩
    refine ⟨_, _, rfl, rfl, _, _, rfl, ?_⟩
    obtain ⟨n, hn⟩ : ∃ n : Nat, (a : Int) + 1 + b = (n : Int) := ⟨((a : Int) + 1 + b).toNat, by omega⟩
    have hn4 : a < n ∧ n ≤ 4 := by omega
    have hlt5 : H5 lt = some (.lst (abc.map sgn)) := d5.st nlp (d4.st nlp upd_same)
    have htq5 : H5 tq = some (.lst (cs.map sgn)) := d5.st nqp htq
    refine ⟨_, rfl, (n : Int), congrArg (fun z => [V.int z]) hn, (by omega), (by omega), fun D hD => ?_⟩
    have d05 := d34.trans d5
    refine lc_range (lo := 0) (n := n) (fun i H' => i ≤ n ∧ Dr p (k + 92 - i) H5 H' ∧ ∃ bs : List Nat, H' D = some (.lst (bs.map sgn)) ∧ bs.length = i ∧ ∀ c ∈ bs, c ∈ abc) ⟨Nat.zero_le _, (Dr.start d5.2 (by omega)).new hD, [], upd_same, rfl, fun _ h => by cases h⟩ ?_ ?_
    · rintro i H' hi ⟨_, d6, bs, hbs, hbl, hba⟩
      refine ⟨rfl, ?_⟩
      have nDp : D ≠ p := d5.2.ne hD
      refine ⟨.ref p, rfl, .ref lt, rfl, p, lt, abc.map sgn, k + 92 - (i + 1), rfl, d6.2.mono (by omega), SqL.of (d6.st nlp hlt5), nlp, by decide, by decide, fun j x H7 hx d7 => ?_⟩
      rw [List.getElem?_map] at hx
      cases e : abc[j]? with
      | none =>
        rw [e] at hx
        cases hx
      | some c =>
        rw [e] at hx
        have ex : sgn c = x := Option.some.inj hx
        refine ⟨bs.map sgn, d7.st nDp hbs, by rw [List.length_map]; exact small1000 (by omega), hi, (d6.trans d7).mut hD nDp, bs ++ [c], ?_, by rw [List.length_append, hbl]; rfl, fun z hz => ?_⟩
        · rw [upd_same, List.map_append, ← ex]
          rfl
        · rcases List.mem_append.mp hz with z1 | z1
          · exact hba _ z1
          · rw [List.mem_singleton.mp z1]
            exact List.mem_of_getElem? e
    · rintro H6 ⟨_, d6, bs, hbs, hbl, hba⟩
      have nDp : D ≠ p := d5.2.ne hD
      refine ⟨Nat.zero_le _, fun F hF => ?_⟩
      refine ⟨_, _, rfl, ?_⟩
      have hF5 : H5 F = none := d6.fr hF
      have nFp : F ≠ p := d6.2.ne hF
      have nDF : D ≠ F := ne_of_none hbs hF
      refine ⟨.ref tq, rfl, tq, rfl, ⟨_, SqL.of (by rw [upd_ne (ne_of_none (d6.st nqp htq5) hF)]; exact d6.st nqp htq5)⟩, ?_⟩
      refine for_list (K := K) (a := tq) (xs := cs.map sgn) (fun i σ H' => ∃ (D : Addr) (bs : List Nat) (v9 v10 : Option V) (ns : List Str), σ = [some (.ref p), some (.int m), some (.int a), some (.bl alike), some (.ref lt), some (.ref tq), some (.int ((a : Int) + 1 + b)), some (.ref D), some (.ref F), v9, v10] ∧ i ≤ m ∧ Dr p (k + 60 - 10 * i) H5 H' ∧
          H' D = some (.lst (bs.map sgn)) ∧ D ≠ p ∧ H5 D = none ∧ D ≠ F ∧ a < bs.length ∧ bs.length ≤ 4 ∧ (∀ c ∈ bs, c ∈ abc) ∧ H' F = some (.lst (ns.map V.str)) ∧ ns.length = i ∧ (∀ (j : Nat) (z : Str), ns[j]? = some z → z.cps.toList[a]? = cs[j]?) ∧ ∀ z ∈ ns, IsNm z)
        ⟨D, bs, none, none, [], rfl, Nat.zero_le _, (d6.new hF).mono (by omega), by rw [upd_ne nDF]; exact hbs, nDp, hD, nDF, by omega, by omega, hba, upd_same, rfl, fun j z h => by simp at h, fun _ h => by cases h⟩ ?_ ?_ ?_
      · rintro i σ H' _ ⟨D, bs, v9, v10, ns, rfl, _, d, _⟩
        exact SqL.of (d.st nqp htq5)
      · rintro i x σ H' hx ⟨D, bs, v9, v10, ns, rfl, hi, d, hD, nDp, nD5, nDF, ha, hb4, hba, hF, hnl, hnat, hnis⟩
        obtain ⟨c, hci, rfl⟩ : ∃ c, cs[i]? = some c ∧ x = sgn c := by
          rw [List.getElem?_map] at hx
          cases e : cs[i]? with
          | none =>
            rw [e] at hx
            cases hx
          | some c =>
            rw [e] at hx
            exact ⟨c, rfl, (Option.some.inj hx).symm⟩
        have hi5 : i < m := by
          have := (List.getElem?_eq_some_iff.mp hci).1
          omega
        refine ⟨_, rfl, alike, rfl, ?_⟩
        refine ite2 (fun _ => ?_) (fun _ => ?_)
        · -- base = [_law_of(pot, letters) for lap in range(at + 1 + _law_take(pot, 4 - at))]
          refine ⟨.int a, rfl, _, _, rfl, rfl, .ref p, rfl, .int a, rfl, _, _, rfl, rfl, p, 4 - (a : Int), k + 60 - 10 * i - 1, rfl, d.2.mono (by omega), by omega, by omega, fun b2 H8 c0 c1 d8 => ?_⟩
          obtain ⟨n2, hn2⟩ : ∃ n : Nat, (a : Int) + 1 + b2 = (n : Int) := ⟨((a : Int) + 1 + b2).toNat, by omega⟩
          have hn24 : a < n2 ∧ n2 ≤ 4 := by omega
          have d58 := d.trans d8
          have hlt8 : H8 lt = some (.lst (abc.map sgn)) := d58.st nlp hlt5
          have hF8 : H8 F = some (.lst (ns.map V.str)) := d8.st nFp hF
          refine ⟨_, _, rfl, rfl, (n2 : Int), congrArg (fun z => [V.int z]) hn2, (by omega), (by omega), fun D2 hD2 => ?_⟩
          have nDp2 : D2 ≠ p := d8.2.ne hD2
          have nDF2 : D2 ≠ F := fun z => by
            rw [z, hF8] at hD2
            cases hD2
          have nD25 : H5 D2 = none := d58.fr hD2
          refine lc_range (lo := 0) (n := n2) (fun i2 H' => i2 ≤ n2 ∧ Dr p (k + 60 - 10 * i - 1 - i2) H8 H' ∧ ∃ bs : List Nat, H' D2 = some (.lst (bs.map sgn)) ∧ bs.length = i2 ∧ ∀ c ∈ bs, c ∈ abc) ⟨Nat.zero_le _, (Dr.start d8.2 (by omega)).new hD2, [], upd_same, rfl, fun _ h => by cases h⟩ ?_ ?_
          · rintro i2 H' hi2 ⟨_, d6, bs, hbs, hbl, hba⟩
            refine ⟨rfl, ?_⟩
            refine ⟨.ref p, rfl, .ref lt, rfl, p, lt, abc.map sgn, k + 60 - 10 * i - 1 - (i2 + 1), rfl, d6.2.mono (by omega), SqL.of (d6.st nlp hlt8), nlp, by decide, by decide, fun j x H7 hx d7 => ?_⟩
            rw [List.getElem?_map] at hx
            cases e : abc[j]? with
            | none =>
              rw [e] at hx
              cases hx
            | some c =>
              rw [e] at hx
              have ex : sgn c = x := Option.some.inj hx
              refine ⟨bs.map sgn, d7.st nDp2 hbs, by rw [List.length_map]; exact small1000 (by omega), hi2, (d6.trans d7).mut hD2 nDp2, bs ++ [c], ?_, by rw [List.length_append, hbl]; rfl, fun z hz => ?_⟩
              · rw [upd_same, List.map_append, ← ex]
                rfl
              · rcases List.mem_append.mp hz with z1 | z1
                · exact hba _ z1
                · rw [List.mem_singleton.mp z1]
                  exact List.mem_of_getElem? e
          rintro H9 ⟨_, d9, bs2, hbs2, hbl2, hba2⟩
          have d59 := d58.trans d9
          have hF9 : H9 F = some (.lst (ns.map V.str)) := d9.st nFp hF8
          have ha2 : a < bs2.length := by omega
          have hb42 : bs2.length ≤ 4 := by omega
          · refine ⟨.ref F, rfl, .inl ⟨rfl, _, SqL.of hF9⟩, ⟨_, rfl⟩, .ref D2, rfl, .int a, rfl, a, rfl, D2, _, rfl, SqL.of hbs2, fun e1 he1 => ?_⟩
            refine ⟨sgn c, rfl, (by show 1 ≤ sizeLine; decide), fun e2 he2 => ?_⟩
            refine ⟨e1, e2, _, _, rfl, rfl, by rw [upd_ne (ne_new he2).symm, upd_same], upd_same, ?_, fun e3 he3 => ?_⟩
            · rw [cut_to]
              show ((bs2.map sgn).take a).length + 1 ≤ sizeLine
              rw [List.length_take, List.length_map]
              exact Nat.le_trans (show _ ≤ 100 by omega) (by decide)
            have s3 := ((same_new (o := .lst (cutV (bs2.map sgn) none (some (a : Int)))) he1).trans (same_new (o := .lst [sgn c]) he2)).trans (same_new (o := .lst (cutV (bs2.map sgn) none (some (a : Int)) ++ [sgn c])) he3)
            refine ⟨.ref D2, rfl, .int a, rfl, _, _, rfl, rfl, _, rfl, D2, _, rfl, SqL.of (s3 _ _ hbs2), fun e4 he4 => ?_⟩
            refine ⟨e3, e4, _, _, rfl, rfl, by rw [upd_ne (ne_new he4).symm, upd_same], upd_same, ?_, fun e5 he5 => ?_⟩
            · rw [cut_to, show ((a : Int) + 1) = ((a + 1 : Nat) : Int) by omega, cut_from, List.length_append, List.length_take, List.length_drop, List.length_map]
              show min a bs2.length + 1 + _ ≤ _
              exact Nat.le_trans (show _ ≤ 100 by omega) (by decide)
            have s5 := (s3.trans (same_new (o := .lst (cutV (bs2.map sgn) (some ((a : Int) + 1)) none)) he4)).trans (same_new (o := .lst (cutV (bs2.map sgn) none (some (a : Int)) ++ [sgn c] ++ cutV (bs2.map sgn) (some ((a : Int) + 1)) none)) he5)
            have en : cutV (bs2.map sgn) none (some (a : Int)) ++ [sgn c] ++ cutV (bs2.map sgn) (some ((a : Int) + 1)) none = ((nm bs2 a c).map fun c => mk [c]).map V.str := by
              rw [cut_to, show ((a : Int) + 1) = ((a + 1 : Nat) : Int) by omega, cut_from, List.map_map]
              unfold nm
              rw [List.map_append, List.map_cons, List.map_take, List.map_drop, List.append_assoc]
              rfl
            refine ⟨_, e5, (nm bs2 a c).map fun c => mk [c], rfl, rfl, .inl (SqL.of (by rw [upd_same, en])), ?_, ?_⟩
            · have l1 : ((nm bs2 a c).map fun c => mk [c]).map (·.length) = (nm bs2 a c).map fun _ => 1 := by
                rw [List.map_map]
                rfl
              rw [l1, List.map_const', List.sum_replicate_nat, List.length_map, nm_len ha2]
              show bs2.length * 1 + bs2.length * 0 ≤ 16777216
              omega
            refine ⟨F, _, _, rfl, rfl, s5 _ _ hF9, by rw [List.length_map]; exact small1000 (by omega), ?_⟩
            refine ⟨D2, bs2, _, _, ns ++ [mk (nm bs2 a c)], rfl, by omega, ?_, ?_, nDp2, nD25, nDF2, ha2, hb42, hba2, ?_, by rw [List.length_append, hnl]; rfl, ?_, ?_⟩
            · exact Dr.mono (Dr.mut ⟨d59.1.trans (Same.kp s5), d59.2.same s5⟩ hF5 nFp) (by omega)
            · rw [upd_ne nDF2]
              exact s5 _ _ hbs2
            · rw [upd_same, List.map_append, join_ones]
              rfl
            · intro j z hz
              by_cases hj : j < ns.length
              · rw [List.getElem?_append_left hj] at hz
                exact hnat j z hz
              · rw [List.getElem?_append_right (by omega)] at hz
                have hj0 : j - ns.length = 0 := by
                  have := (List.getElem?_eq_some_iff.mp hz).1
                  simp only [List.length_singleton] at this
                  omega
                rw [hj0] at hz
                have ez : mk (nm bs2 a c) = z := Option.some.inj hz
                rw [← ez, mk_tl, nm_at ha2, show j = i by omega, hci]
            · intro z hz
              rcases List.mem_append.mp hz with z1 | z1
              · exact hnis z z1
              · rw [List.mem_singleton.mp z1]
                exact nm_is hba2 (hcs _ (List.mem_of_getElem? hci)) ha2 hb42
        · refine ⟨.ref F, rfl, .inl ⟨rfl, _, SqL.of hF⟩, ⟨_, rfl⟩, .ref D, rfl, .int a, rfl, a, rfl, D, _, rfl, SqL.of hD, fun e1 he1 => ?_⟩
          refine ⟨sgn c, rfl, (by show 1 ≤ sizeLine; decide), fun e2 he2 => ?_⟩
          refine ⟨e1, e2, _, _, rfl, rfl, by rw [upd_ne (ne_new he2).symm, upd_same], upd_same, ?_, fun e3 he3 => ?_⟩
          · rw [cut_to]
            show ((bs.map sgn).take a).length + 1 ≤ sizeLine
            rw [List.length_take, List.length_map]
            exact Nat.le_trans (show _ ≤ 100 by omega) (by decide)
          have s3 := ((same_new (o := .lst (cutV (bs.map sgn) none (some (a : Int)))) he1).trans (same_new (o := .lst [sgn c]) he2)).trans (same_new (o := .lst (cutV (bs.map sgn) none (some (a : Int)) ++ [sgn c])) he3)
          refine ⟨.ref D, rfl, .int a, rfl, _, _, rfl, rfl, _, rfl, D, _, rfl, SqL.of (s3 _ _ hD), fun e4 he4 => ?_⟩
          refine ⟨e3, e4, _, _, rfl, rfl, by rw [upd_ne (ne_new he4).symm, upd_same], upd_same, ?_, fun e5 he5 => ?_⟩
          · rw [cut_to, show ((a : Int) + 1) = ((a + 1 : Nat) : Int) by omega, cut_from, List.length_append, List.length_take, List.length_drop, List.length_map]
            show min a bs.length + 1 + _ ≤ _
            exact Nat.le_trans (show _ ≤ 100 by omega) (by decide)
          have s5 := (s3.trans (same_new (o := .lst (cutV (bs.map sgn) (some ((a : Int) + 1)) none)) he4)).trans (same_new (o := .lst (cutV (bs.map sgn) none (some (a : Int)) ++ [sgn c] ++ cutV (bs.map sgn) (some ((a : Int) + 1)) none)) he5)
          have en : cutV (bs.map sgn) none (some (a : Int)) ++ [sgn c] ++ cutV (bs.map sgn) (some ((a : Int) + 1)) none = ((nm bs a c).map fun c => mk [c]).map V.str := by
            rw [cut_to, show ((a : Int) + 1) = ((a + 1 : Nat) : Int) by omega, cut_from, List.map_map]
            unfold nm
            rw [List.map_append, List.map_cons, List.map_take, List.map_drop, List.append_assoc]
            rfl
          refine ⟨_, e5, (nm bs a c).map fun c => mk [c], rfl, rfl, .inl (SqL.of (by rw [upd_same, en])), ?_, ?_⟩
          · have l1 : ((nm bs a c).map fun c => mk [c]).map (·.length) = (nm bs a c).map fun _ => 1 := by
              rw [List.map_map]
              rfl
            rw [l1, List.map_const', List.sum_replicate_nat, List.length_map, nm_len ha]
            show bs.length * 1 + bs.length * 0 ≤ 16777216
            omega
          refine ⟨F, _, _, rfl, rfl, s5 _ _ hF, by rw [List.length_map]; exact small1000 (by omega), ?_⟩
          refine ⟨D, bs, _, _, ns ++ [mk (nm bs a c)], rfl, by omega, ?_, ?_, nDp, nD5, nDF, ha, hb4, hba, ?_, by rw [List.length_append, hnl]; rfl, ?_, ?_⟩
          · exact Dr.mono (Dr.mut ⟨d.1.trans (Same.kp s5), d.2.same s5⟩ hF5 nFp) (by omega)
          · rw [upd_ne nDF]
            exact s5 _ _ hD
          · rw [upd_same, List.map_append, join_ones]
            rfl
          · intro j z hz
            by_cases hj : j < ns.length
            · rw [List.getElem?_append_left hj] at hz
              exact hnat j z hz
            · rw [List.getElem?_append_right (by omega)] at hz
              have hj0 : j - ns.length = 0 := by
                have := (List.getElem?_eq_some_iff.mp hz).1
                simp only [List.length_singleton] at this
                omega
              rw [hj0] at hz
              have ez : mk (nm bs a c) = z := Option.some.inj hz
              rw [← ez, mk_tl, nm_at ha, show j = i by omega, hci]
          · intro z hz
            rcases List.mem_append.mp hz with z1 | z1
            · exact hnis z z1
            · rw [List.mem_singleton.mp z1]
              exact nm_is hba (hcs _ (List.mem_of_getElem? hci)) ha hb4
      · rintro σ H' ⟨D, bs, v9, v10, ns, rfl, hi, d, hD, nDp, nD5, nDF, ha, hb4, hba, hF, hnl, hnat, hnis⟩
        refine ⟨.ref F, rfl, F, _, rfl, .inl ⟨SqL.of hF, fun tq2 htq2 => ?_⟩⟩
        rw [List.length_map] at hnl d
        have hms := nms_of nd hnl hnat hnis
        rw [hl] at hms
        exact q tq2 ns _ hms ((d05.trans (d.mono (by omega))).new htq2) (d05.fr (d.fr htq2)) ((d05.trans d).2.ne htq2) upd_same
end
end OG
set_option Elab.async false
set_option linter.all false
set_option maxRecDepth 100000
set_option maxHeartbeats 4000000
namespace OG
open PySem PySem.Spec PyProof.Rows L2
theorem lc_drawn {p : Addr} {m : Nat} {H5 : Hp} {D : Addr} {te : TE} {sl : Nat} {σ : L2.St} {Qd : Hp → Prop} (b : Nat → Nat) (R : V → Prop) (hP : Pot (b 0) H5 p) (hD : H5 D = none) (hm : m ≤ 1000)
    (hte : ∀ (i : Nat) (H' : Hp) (Q : VK), i < m → Dr p (b i) H5 H' → (∀ x H4, R x → Dr p (b (i + 1)) H' H4 → Q x H4) → te ((wipe σ [sl]).set sl (some (.int (0 + (i : Int))))) H' Q)
    (hw : ∀ v : Option V, wipe ((wipe σ [sl]).set sl v) [sl] = wipe σ [sl])
    (hd : ∀ (H6 : Hp) (xs : List V), xs.length = m → (∀ x ∈ xs, R x) → Dr p (b m) H5 H6 → H6 D = some (.lst xs) → Qd H6) :
    ∃ W : Nat → Nat → Hp → Prop, (∃ m, W 0 m (upd H5 D (.lst []))) ∧ ∀ i n H, W i n H →
      ((Itr 0 m).stop i H ∧ Qd H) ∨ ((Itr 0 m).go i H ∧ ∃ Nx : Hp → Prop, (∀ H', Nx H' → ∃ m', m' < n ∧ W (i + 1) m' H') ∧ ∀ x H', (Itr 0 m).yld i H x H' → gName sl x (wipe σ [sl]) H' fun σ2 H2 => wipe σ2 [sl] = wipe σ [sl] ∧ tYes σ2 H2 fun b H3 =>
        if b = true then te σ2 H3 fun y H4 => ∃ acc, H4 D = some (.lst acc) ∧ acc.length < sizeLine ∧ Nx (upd H4 D (.lst (acc ++ [y]))) else Nx H3) := by
  have nDp : D ≠ p := hP.ne hD
  refine lc_range (lo := 0) (n := m) (fun i H' => i ≤ m ∧ Dr p (b i) H5 H' ∧ ∃ xs : List V, H' D = some (.lst xs) ∧ xs.length = i ∧ ∀ x ∈ xs, R x) ⟨Nat.zero_le _, (Dr.start hP (Nat.le_refl _)).new hD, [], upd_same, rfl, fun _ h => by cases h⟩ ?_ ?_
  · rintro i H' hi ⟨_, d, xs, h1, h2, h3⟩
    refine ⟨hw _, ?_⟩
    refine hte i H' _ hi d fun x H4 hx d4 => ?_
    refine ⟨xs, d4.st nDp h1, small1000 (by omega), hi, (d.trans d4).mut hD nDp, xs ++ [x], upd_same, by rw [List.length_append, h2]; rfl, fun z hz => ?_⟩
    rcases List.mem_append.mp hz with q | q
    · exact h3 z q
    · rw [List.mem_singleton.mp q]
      exact hx
  · rintro H6 ⟨_, d, xs, h1, h2, h3⟩
    exact hd H6 xs h2 h3 d h1
theorem ints_of {P : Int → Prop} : ∀ {xs : List V}, (∀ x ∈ xs, ∃ z, x = V.int z ∧ P z) → ∃ zs : List Int, xs = zs.map V.int ∧ ∀ z ∈ zs, P z
  | [], _ => ⟨[], rfl, fun _ h => by cases h⟩
  | x :: r, h => by
    obtain ⟨zs, e, k⟩ := ints_of (xs := r) fun y hy => h y (List.mem_cons_of_mem _ hy)
    obtain ⟨z, ez, pz⟩ := h x List.mem_cons_self
    refine ⟨z :: zs, by rw [e, ez]; rfl, fun y hy => ?_⟩
    rcases List.mem_cons.mp hy with q | q
    · rw [q]; exact pz
    · exact k y q
def WOk (b w : Int) : Prop := w ≠ 0 ∧ -1000000000000 ≤ w ∧ w ≤ 1000000000000 ∧ (0 < b → 0 < w ∧ w < b)
theorem sum_bd : ∀ {zs : List Int}, (∀ z ∈ zs, -3 ≤ z ∧ z ≤ 3) → -(3 * (zs.length : Int)) ≤ zs.sum ∧ zs.sum ≤ 3 * (zs.length : Int)
  | [], _ => by simp
  | x :: r, h => by
    have ih := sum_bd (zs := r) fun y hy => h y (List.mem_cons_of_mem _ hy)
    have hx := h x List.mem_cons_self
    rw [List.sum_cons, List.length_cons]
    omega
end OG
set_option Elab.async false
set_option linter.all false
set_option maxRecDepth 100000
set_option maxHeartbeats 4000000
namespace OG
open PySem PySem.Spec PyProof.Rows L2
theorem seq_fin {t1 t2 : TS} {D : Ends} {σ : L2.St} {H : Hp} (C : L2.St → Hp → Prop) (h2 : ∀ σ' H', C σ' H' → t2 D σ' H') (h1 : (∀ σ' H', C σ' H' → t2 D σ' H') → t1 { D with nx := t2 D } σ H) : tSeq t1 t2 D σ H := h1 h2
/-- places: the ints below m -/
def plV (m : Nat) : List V := rgV 0 (m : Int)
theorem plV_len (m : Nat) : (plV m).length = m := by
  unfold plV
  rw [rgV_length]
  omega
theorem plV_at {m i : Nat} {x : V} (h : (plV m)[i]? = some x) : i < m ∧ x = .int (i : Int) := by
  have hi : i < m := by
    have q := (List.getElem?_eq_some_iff.mp h).1
    rwa [plV_len] at q
  refine ⟨hi, ?_⟩
  unfold plV rgV at h
  rw [List.getElem?_map, List.getElem?_range (show i < ((m : Int) - 0).toNat by omega)] at h
  have e : V.int (0 + (i : Int)) = x := Option.some.inj h
  rw [← e, Int.zero_add]
/-- a list of lists: m rows of m numbers -/
def Mat (R : Int → Prop) (p : Addr) (H : Hp) (S : Addr) (m : Nat) : Prop := ∃ rs : List Addr, H S = some (.lst (rs.map V.ref)) ∧ S ≠ p ∧ rs.length = m ∧ ∀ r ∈ rs, r ≠ p ∧ r ≠ S ∧ ∃ row : List Int, H r = some (.lst (row.map V.int)) ∧ row.length = m ∧ ∀ z ∈ row, R z
theorem Mat.imp {R R' : Int → Prop} {p : Addr} {H : Hp} {S : Addr} {m : Nat} (h : Mat R p H S m) (e : ∀ z, R z → R' z) : Mat R' p H S m := by
  obtain ⟨rs, h1, h2, h3, h4⟩ := h
  refine ⟨rs, h1, h2, h3, fun r hr => ?_⟩
  obtain ⟨a, b, row, c, d, f⟩ := h4 r hr
  exact ⟨a, b, row, c, d, fun z hz => e z (f z hz)⟩
theorem Mat.dr {R : Int → Prop} {p : Addr} {H H' : Hp} {S : Addr} {m k : Nat} (h : Mat R p H S m) (d : Dr p k H H') : Mat R p H' S m := by
  obtain ⟨rs, h1, h2, h3, h4⟩ := h
  refine ⟨rs, d.st h2 h1, h2, h3, fun r hr => ?_⟩
  obtain ⟨a, b, row, c, d', f⟩ := h4 r hr
  exact ⟨a, b, row, d.st a c, d', f⟩
/-- the entry at a, b -/
theorem Mat.row {R : Int → Prop} {p : Addr} {H : Hp} {S : Addr} {m i : Nat} (h : Mat R p H S m) (hi : i < m) : ∃ (rs : List Addr) (r : Addr) (row : List Int), H S = some (.lst (rs.map V.ref)) ∧ rs.length = m ∧ (rs.map V.ref)[i]? = some (.ref r) ∧ H r = some (.lst (row.map V.int)) ∧ row.length = m ∧ ∀ z ∈ row, R z := by
  obtain ⟨rs, h1, h2, h3, h4⟩ := h
  have hr : rs[i]? = some (rs[i]'(by omega)) := List.getElem?_eq_getElem (by omega)
  obtain ⟨a, b, row, c, d', f⟩ := h4 _ (List.mem_of_getElem? hr)
  refine ⟨rs, _, row, h1, h3, ?_, c, d', f⟩
  rw [List.getElem?_map, hr]
  rfl
theorem row_at {R : Int → Prop} {row : List Int} {m i : Nat} (h : row.length = m) (f : ∀ z ∈ row, R z) (hi : i < m) : ∃ z, (row.map V.int)[i]? = some (.int z) ∧ R z := by
  have hr : row[i]? = some (row[i]'(by omega)) := List.getElem?_eq_getElem (by omega)
  refine ⟨_, ?_, f _ (List.mem_of_getElem? hr)⟩
  rw [List.getElem?_map, hr]
  rfl
theorem lc_mat {K : PySem.W.Frag} {p pl D : Addr} {m k sa sb sp : Nat} {H5 : Hp} {te : TE} {σ : L2.St} {Qd : Hp → Prop} (R : Int → Prop)
    (hP : Pot (k + 25) H5 p) (hm : m ≤ 4) (hpl : H5 pl = some (.lst (plV m))) (npl : pl ≠ p) (hD : H5 D = none)
    (hte : ∀ (a b j : Nat) (H' : Hp) (Q' : VK), a < m → b < m → Dr p (j + 1) H5 H' → (∀ z H4, R z → Dr p j H' H4 → Q' (.int z) H4) →
      te ((wipe ((wipe σ [sa]).set sa (some (.int (a : Int)))) [sb]).set sb (some (.int (b : Int)))) H' Q')
    (hv : ∀ v : Option V, ((wipe σ [sa]).set sa v)[sp]? = some (some (.ref pl)))
    (hw1 : ∀ v : Option V, wipe ((wipe σ [sa]).set sa v) [sa] = wipe σ [sa])
    (hw2 : ∀ v v2 : Option V, wipe ((wipe ((wipe σ [sa]).set sa v) [sb]).set sb v2) [sb] = wipe ((wipe σ [sa]).set sa v) [sb])
    (hd : ∀ (H6 : Hp), Mat R p H6 D m → Dr p k H5 H6 → Qd H6) :
    ∃ W : Nat → Nat → Hp → Prop, (∃ m, W 0 m (upd H5 D (.lst []))) ∧ ∀ i n H, W i n H →
      ((Itl K pl).stop i H ∧ Qd H) ∨ ((Itl K pl).go i H ∧ ∃ Nx : Hp → Prop, (∀ H', Nx H' → ∃ m', m' < n ∧ W (i + 1) m' H') ∧ ∀ x H', (Itl K pl).yld i H x H' → gName sa x (wipe σ [sa]) H' fun σ2 H2 => wipe σ2 [sa] = wipe σ [sa] ∧ tYes σ2 H2 fun b H3 =>
        if b = true then tLc (iList K (tVar sp)) (gName sb) tYes te [sb] σ2 H3 fun y H4 => ∃ acc, H4 D = some (.lst acc) ∧ acc.length < sizeLine ∧ Nx (upd H4 D (.lst (acc ++ [y]))) else Nx H3) := by
  have nDp : D ≠ p := hP.ne hD
  refine lc_list (K := K) (a := pl) (xs := plV m) (fun i H' => i ≤ m ∧ Dr p (k + 25 - 5 * i) H5 H' ∧ ∃ rs : List Addr, H' D = some (.lst (rs.map V.ref)) ∧ rs.length = i ∧ ∀ r ∈ rs, r ≠ p ∧ r ≠ D ∧ ∃ row : List Int, H' r = some (.lst (row.map V.int)) ∧ row.length = m ∧ ∀ z ∈ row, R z)
    ⟨Nat.zero_le _, (Dr.start hP (Nat.le_refl _)).new hD, [], upd_same, rfl, fun _ h => by cases h⟩ (fun i H' _ ⟨_, d, _⟩ => SqL.of (d.st npl hpl)) ?_ ?_
  · rintro i x H' hx ⟨_, d, rs, h1, h2, h3⟩
    obtain ⟨him, rfl⟩ := plV_at hx
    refine ⟨hw1 _, ?_⟩
    refine ⟨.ref pl, hv _, pl, rfl, ⟨_, SqL.of (d.st npl hpl)⟩, fun D2 hD2 => ?_⟩
    have nD2p : D2 ≠ p := d.2.ne hD2
    have nD2D : D2 ≠ D := fun z => by
      rw [z, h1] at hD2
      cases hD2
    have hD25 := d.fr hD2
    refine lc_list (K := K) (a := pl) (xs := plV m) (fun j H7 => j ≤ m ∧ Dr p (k + 25 - 5 * i - j) H' H7 ∧ ∃ row : List Int, H7 D2 = some (.lst (row.map V.int)) ∧ row.length = j ∧ ∀ z ∈ row, R z)
      ⟨Nat.zero_le _, (Dr.start d.2 (Nat.le_refl _)).new hD2, [], upd_same, rfl, fun _ h => by cases h⟩ (fun j H7 _ ⟨_, d7, _⟩ => SqL.of (d7.st npl (d.st npl hpl))) ?_ ?_
    · rintro j x H7 hx ⟨_, d7, row, g1, g2, g3⟩
      obtain ⟨hjm, rfl⟩ := plV_at hx
      refine ⟨hw2 _ _, ?_⟩
      refine hte i j (k + 25 - 5 * i - (j + 1)) H7 _ him hjm ((d.trans d7).mono (by omega)) fun z H8 hz d8 => ?_
      refine ⟨row.map V.int, d8.st nD2p g1, by rw [List.length_map]; exact small1000 (by omega), hjm, (d7.trans d8).mut hD2 nD2p, row ++ [z], ?_, by rw [List.length_append, g2]; rfl, fun y hy => ?_⟩
      · rw [upd_same, List.map_append]
        rfl
      · rcases List.mem_append.mp hy with q | q
        · exact g3 y q
        · rw [List.mem_singleton.mp q]
          exact hz
    · rintro H7 ⟨_, d7, row, g1, g2, g3⟩
      rw [plV_len] at d7 g2
      refine ⟨rs.map V.ref, d7.st nDp h1, by rw [List.length_map]; exact small1000 (by omega), him, ((d.trans d7).mut hD nDp).mono (by omega), rs ++ [D2], ?_, by rw [List.length_append, h2]; rfl, fun r hr => ?_⟩
      · rw [upd_same, List.map_append]
        rfl
      · rcases List.mem_append.mp hr with q | q
        · obtain ⟨a1, a2, row', a3, a4, a5⟩ := h3 r q
          exact ⟨a1, a2, row', by rw [upd_ne a2]; exact d7.st a1 a3, a4, a5⟩
        · rw [List.mem_singleton.mp q]
          exact ⟨nD2p, nD2D, row, by rw [upd_ne nD2D]; exact g1, g2, g3⟩
  · rintro H6 ⟨_, d, rs, h1, h2, h3⟩
    rw [plV_len] at d h2
    exact hd H6 ⟨rs, h1, nDp, h2, h3⟩ (d.mono (by omega))
end OG
set_option Elab.async false
set_option linter.all false
set_option maxRecDepth 100000
set_option maxHeartbeats 4000000
namespace OG
open PySem PySem.Spec PyProof.Rows L2
section
variable {X : Cx} (K : PySem.W.Frag)
theorem pi_listK {tg l : Expr} {tl : TE} (h : PE X l tl) (hK : X.K = K := by rfl) : PI X tg l (iList K tl) := hK ▸ pi_list h
theorem pi_tupK {tg l : Expr} {tl : TE} (h : PE X l tl) (hK : X.K = K := by rfl) : PI X tg l (iTup K tl) := hK ▸ pi_tup h
theorem ix_listK (hK : X.K = K := by rfl) : IxR X (rIxL K) := hK ▸ ix_list
theorem ix_tupK (hK : X.K = K := by rfl) : IxR X (rIxT K) := hK ▸ ix_tup
def rTupOf (K : PySem.W.Frag) : List V → Hp → VK → Prop := fun xs H Q => ∃ p ys, xs = [.ref p] ∧ ((SqL K H p ys ∧ ∀ l, H l = none → Q (.ref l) (upd H l (.tup ys))) ∨ (SqT K H p ys ∧ Q (.ref p) H))
theorem call_tuple_ofK (hK : X.K = K := by rfl) : CallR X (.type "tuple") (rTupOf K) := hK ▸ call_tuple_of
theorem op_in_seqK (hK : X.K = K := by rfl) : OpR X (compareOp .In) (rIn K false) := hK ▸ op_in_seq
theorem op_notIn_seqK (hK : X.K = K := by rfl) : OpR X (compareOp .NotIn) (rIn K true) := hK ▸ op_notIn_seq
def rJoin (K : PySem.W.Frag) : V → List V → Hp → VK → Prop := fun x xs H Q => ∃ a p, ∃ ys : List Str, x = .str a ∧ xs = [.ref p] ∧ (SqL K H p (ys.map V.str) ∨ SqT K H p (ys.map V.str)) ∧ (ys.map (·.length)).sum + ys.length * a.length ≤ 16777216 ∧ Q (.str (Txt.join a ys)) H
theorem mt_joinK (hK : X.K = K := by rfl) : MtR X "str.join" (rJoin K) := hK ▸ mt_join
theorem sl_listK (hK : X.K = K := by rfl) : SlR X (rSlL K) := hK ▸ sl_list
def rLenSeq (K : PySem.W.Frag) : List V → Hp → VK → Prop := fun xs H Q => ∃ p ys, xs = [.ref p] ∧ (SqL K H p ys ∨ SqT K H p ys) ∧ Q (.int ys.length) H
theorem call_len_seqK (hK : X.K = K := by rfl) : CallR X (.builtin "len") (rLenSeq K) := hK ▸ call_len_seq
theorem pg_tupK {es : List Expr} {k : Nat} {t : TGs} {n : Nat} {pos : Pos} (hc : X.calm = true) (h : PGs X es t) (hn : (assignEach es X.env).length = n := by rfl) (hst : (assignEach es X.env).findIdx? (·.1) = none := by rfl) (hK : X.K = K := by rfl) : PG X (.Tuple es k pos) (gTup K n t) := hK ▸ pg_tup hc h hn hst
end
end OG
set_option Elab.async false
set_option linter.all false
set_option maxRecDepth 100000
set_option maxHeartbeats 8000000
namespace OG
open PySem PySem.Spec PyProof.Rows L2
theorem merge_new : ∀ {more kvs : List (Key × V)}, (more.map (·.1)).Nodup → (∀ kv ∈ more, valV kvs kv.1 = none) → mergeK kvs more = kvs ++ more
  | [], kvs, _, _ => by
    rw [List.append_nil]
    rfl
  | kv :: r, kvs, h, hn => by
    rw [List.map_cons, List.nodup_cons] at h
    have e : mergeK kvs (kv :: r) = mergeK (putK kvs kv.1 kv.2) r := rfl
    have e1 := putK_new kv.2 (hn kv List.mem_cons_self)
    rw [e, e1, merge_new h.2 fun x hx => ?_, List.append_assoc]
    · rfl
    · rw [valV_snoc _ _ _ _ (hn kv List.mem_cons_self), if_neg fun z => h.1 (by rw [← z]; exact List.mem_map_of_mem hx)]
      exact hn x (List.mem_cons_of_mem _ hx)
theorem merge0 {more : List (Key × V)} (h : (more.map (·.1)).Nodup) : mergeK [] more = more := by
  rw [merge_new h fun _ _ => rfl]
  rfl
theorem dget {H : Hp} {o : Addr} {kvs : List (Key × V)} {s : Str} {v : V} (h : H o = some (.dK kvs)) (hv : valV kvs (.inr s) = some v) : DGet H o (.str s) (some v) := .inl ⟨kvs, .inr s, .inl h, rfl, hv.symm⟩
theorem putK_nd {kvs : List (Key × V)} {k : Key} {v : V} (h : (kvs.map (·.1)).Nodup) : ((putK kvs k v).map (·.1)).Nodup := by
  unfold putK
  split
  · rw [List.map_map, show ((fun x : Key × V => x.1) ∘ fun kv => if kv.1 = k then (kv.1, v) else kv) = (fun x => x.1) from funext fun kv => by
      show (if kv.1 = k then (kv.1, v) else kv).1 = kv.1
      split <;> rfl]
    exact h
  · rename_i e
    rw [List.map_append, List.nodup_append]
    refine ⟨h, by simp, fun a ha b hb z => ?_⟩
    obtain ⟨kv, h1, rfl⟩ := List.mem_map.mp ha
    have eb : b = k := by simpa using hb
    exact e (List.any_eq_true.mpr ⟨kv, h1, decide_eq_true (z.trans eb)⟩)
theorem k_ne {a b : Str} (h : ¬ a = b) : ¬ (Sum.inr a : Key) = Sum.inr b := fun z => h (Sum.inr.inj z)
def istr (i : Int) : Str := Str.ofString (toString i)
theorem istr_len {i : Int} (h1 : -1000000000000 ≤ i) (h2 : i ≤ 1000000000000) : (istr i).length ≤ 14 := by
  by_cases h : i < 0
  · unfold istr
    rw [len_text_neg h]
    have := toString_length_le (v := 0 - i) (by omega) (k := 13) (by decide) (by omega)
    omega
  · have := toString_length_le (v := i) (by omega) (k := 13) (by decide) (by omega)
    unfold istr
    omega
theorem small_log {i : Int} (h1 : -1000000000000 ≤ i) (h2 : i ≤ 1000000000000) : i.natAbs.log2 < 1920 := PySem.Flt.log2_lt_of (by decide) (Nat.lt_of_le_of_lt (show i.natAbs ≤ 1000000000000 by omega) (Nat.lt_of_lt_of_le (show 1000000000000 < 2 ^ 60 by decide) (Nat.pow_le_pow_right (by decide) (by decide))))
theorem app_len (a b : Str) : (a ++ b).length = a.length + b.length := by
  rw [TL.len_tl, TL.tl_append, List.length_append, TL.len_tl, TL.len_tl]
theorem joinL_len (S : List Nat) : ∀ ls : List (List Nat), (TL.joinL S ls).length ≤ (ls.map fun l => l.length + S.length).sum
  | [] => Nat.zero_le _
  | [p] => by
    show p.length ≤ _
    simp
  | p :: q :: r => by
    show (p ++ (S ++ TL.joinL S (q :: r))).length ≤ _
    have ih := joinL_len S (q :: r)
    rw [List.length_append, List.length_append, List.map_cons, List.sum_cons]
    omega
theorem join_len (a : Str) (ys : List Str) : (Txt.join a ys).length ≤ (ys.map fun y => y.length + a.length).sum := by
  have e := (congrArg TL.tl (TL.join_eq a ys)).trans (TL.tl_join a ys)
  rw [TL.len_tl, e]
  refine Nat.le_trans (joinL_len _ _) ?_
  rw [List.map_map]
  exact Nat.le_refl _
theorem sum_le {α : Type} {f : α → Nat} {c : Nat} : ∀ {ys : List α}, (∀ y ∈ ys, f y ≤ c) → (ys.map f).sum ≤ ys.length * c
  | [], _ => Nat.zero_le _
  | y :: r, h => by
    have ih := sum_le (ys := r) fun z hz => h z (List.mem_cons_of_mem _ hz)
    have hy := h y List.mem_cons_self
    rw [List.map_cons, List.sum_cons, List.length_cons, Nat.add_mul]
    omega
theorem join_le {a : Str} {ys : List Str} {c n : Nat} (h : ∀ y ∈ ys, y.length ≤ c) (hn : ys.length ≤ n) (ha : a.length = 1) : (Txt.join a ys).length ≤ n * (c + 1) := by
  refine Nat.le_trans (join_len a ys) (Nat.le_trans (sum_le (c := c + 1) fun y hy => ?_) (Nat.mul_le_mul_right _ hn))
  have := h y hy
  omega
theorem join_ok {a : Str} {ys : List Str} {c n : Nat} (h : ∀ y ∈ ys, y.length ≤ c) (hn : ys.length ≤ n) (ha : a.length = 1) (hb : n * (c + 1) ≤ 16777216) : (ys.map (·.length)).sum + ys.length * a.length ≤ 16777216 := by
  have e := sum_le (f := fun y : Str => y.length) h
  have e2 : ys.length * (c + 1) ≤ n * (c + 1) := Nat.mul_le_mul_right _ hn
  rw [Nat.mul_add, Nat.mul_one] at e2
  rw [ha]
  omega
theorem take_more {α : Type} {l : List α} {i : Nat} {x : α} (h : l[i]? = some x) : l.take (i + 1) = l.take i ++ [x] := by
  rw [List.take_add_one, h]
  rfl
theorem zw_at {α β γ : Type} {f : α → β → γ} {xs : List α} {ys : List β} {i : Nat} {x : α} {y : β} (h1 : xs[i]? = some x) (h2 : ys[i]? = some y) : (List.zipWith f xs ys)[i]? = some (f x y) := by
  rw [List.getElem?_zipWith, h1, h2]
theorem szl {n : Nat} (h : n ≤ 16000000) : n ≤ sizeLine := Nat.le_trans h (by decide)
end OG
set_option Elab.async false
set_option linter.all false
set_option maxRecDepth 100000
set_option maxHeartbeats 4000000
namespace OG
open PySem PySem.Spec PyProof.Rows L2
open PySem.NumText (AllDigits digitsVal)
abbrev tl (x : Str) : List Nat := x.cps.toList
def figs : List Nat → List Nat
  | 45 :: r => r
  | l => l
theorem figs_neg (r : List Nat) : figs (45 :: r) = r := rfl
theorem figs_pos {c : Nat} {r : List Nat} (h : c ≠ 45) : figs (c :: r) = c :: r := by
  unfold figs
  split
  · rename_i h2
    exact absurd (List.cons.inj h2).1 h
  · rfl
theorem figs_le (l : List Nat) : (figs l).length ≤ l.length := by
  unfold figs
  split
  · simp
  · exact Nat.le_refl _
theorem rp (w : Str) : tl (Txt.removeprefix w "-") = figs (tl w) := by
  have e : Builtin.Str.subAt w "-" 0 = ((tl w).take 1 == [45]) := by
    rw [PySem.StrLaws.subAt_eq, List.drop_zero]
    rfl
  unfold Txt.removeprefix
  rw [e]
  cases h : tl w with
  | nil =>
    show tl (Txt.affix w (if (([] : List Nat) == [45]) = true then _ else none)) = []
    rw [if_neg (by decide)]
    exact h
  | cons c r =>
    by_cases hc : c = 45
    · subst hc
      rw [if_pos (by show ([45] == [45]) = true; decide)]
      have hl : w.length = r.length + 1 := by
        rw [TL.len_tl]
        show (tl w).length = _
        rw [h]
        rfl
      show tl (if ((w.length - 1 == w.length) = true) then w else Builtin.Str.strSub w 1 w.length) = r
      rw [if_neg (by rw [hl]; simp)]
      show (Builtin.Str.strSub w 1 w.length).cps.toList = r
      rw [PySem.StrLaws.strSub_toList]
      show ((tl w).drop 1).take (w.length - 1) = r
      rw [h, hl]
      show r.take (r.length + 1 - 1) = r
      exact List.take_of_length_le (by omega)
    · rw [if_neg (by show ¬ ([c] == [45]) = true; simpa using hc), figs_pos hc]
      exact h
def digs (l : List Nat) : Bool := l.all fun c => decide (48 ≤ c) && decide (c ≤ 57)
theorem digs_all {l : List Nat} (h : digs l = true) : AllDigits l := fun c hc => by
  unfold digs at h
  rw [List.all_eq_true] at h
  have := h c hc
  rw [Bool.and_eq_true, decide_eq_true_eq, decide_eq_true_eq] at this
  exact this
/-- a number of at most n figures, as Python writes it -/
def numQ (n : Nat) (l : List Nat) : Bool := decide (1 ≤ (figs l).length) && decide ((figs l).length ≤ n) && digs (figs l) && !(decide ((figs l).head? = some 48) && !decide (l = [48]))
def numV : List Nat → Int
  | 45 :: r => -((digitsVal r : Nat) : Int)
  | l => ((digitsVal l : Nat) : Int)
theorem numV_neg (r : List Nat) : numV (45 :: r) = -((digitsVal r : Nat) : Int) := rfl
theorem numV_pos {c : Nat} {r : List Nat} (h : c ≠ 45) : numV (c :: r) = ((digitsVal (c :: r) : Nat) : Int) := by
  unfold numV
  split
  · rename_i h2
    exact absurd (List.cons.inj h2).1 h
  · rfl
theorem numV_abs {l : List Nat} (h : l ≠ []) : (numV l).natAbs = digitsVal (figs l) := by
  cases l with
  | nil => exact absurd rfl h
  | cons c r =>
    by_cases hc : c = 45
    · subst hc
      rw [numV_neg, figs_neg]
      omega
    · rw [numV_pos hc, figs_pos hc]
      omega
theorem digitsVal_go : ∀ (l : List Nat) (a : Nat), l.foldl (fun acc c => acc * 10 + (c - 48)) a = a * 10 ^ l.length + digitsVal l
  | [], a => by
    show a = a * 10 ^ 0 + 0
    omega
  | c :: r, a => by
    rw [List.foldl_cons, digitsVal_go r]
    have e : digitsVal (c :: r) = (c - 48) * 10 ^ r.length + digitsVal r := by
      unfold digitsVal
      rw [List.foldl_cons]
      have := digitsVal_go r (0 * 10 + (c - 48))
      rw [this, show 0 * 10 + (c - 48) = c - 48 by omega]
      rfl
    rw [e, List.length_cons, Nat.pow_succ, Nat.add_mul]
    rw [Nat.mul_assoc, Nat.mul_comm 10 (10 ^ r.length)]
    omega
theorem digitsVal_cons (c : Nat) (r : List Nat) : digitsVal (c :: r) = (c - 48) * 10 ^ r.length + digitsVal r := by
  have := digitsVal_go r (0 * 10 + (c - 48))
  show (c :: r).foldl _ 0 = _
  rw [List.foldl_cons, this, show 0 * 10 + (c - 48) = c - 48 by omega]
theorem digitsVal_lt : ∀ {l : List Nat}, AllDigits l → digitsVal l < 10 ^ l.length
  | [], _ => by decide
  | c :: r, h => by
    have ih := digitsVal_lt h.tail
    have hc := h.head
    rw [digitsVal_cons, List.length_cons, Nat.pow_succ]
    have : (c - 48) * 10 ^ r.length ≤ 9 * 10 ^ r.length := Nat.mul_le_mul_right _ (by omega)
    omega
theorem digitsVal_ge {c : Nat} {r : List Nat} (h : AllDigits (c :: r)) (hc : c ≠ 48) : 10 ^ r.length ≤ digitsVal (c :: r) := by
  have := h.head
  rw [digitsVal_cons]
  have : 1 * 10 ^ r.length ≤ (c - 48) * 10 ^ r.length := Nat.mul_le_mul_right _ (by omega)
  omega
structure NumQ (n : Nat) (l : List Nat) : Prop where
  f1 : 1 ≤ (figs l).length
  fn : (figs l).length ≤ n
  all : AllDigits (figs l)
  lead : (figs l).head? = some 48 → l = [48]
theorem numQ_iff {n : Nat} {l : List Nat} : numQ n l = true ↔ NumQ n l := by
  unfold numQ
  rw [Bool.and_eq_true, Bool.and_eq_true, Bool.and_eq_true, decide_eq_true_eq, decide_eq_true_eq]
  constructor
  · rintro ⟨⟨⟨h1, h2⟩, h3⟩, h4⟩
    refine ⟨h1, h2, digs_all h3, fun e => ?_⟩
    rw [e] at h4
    simpa using h4
  · rintro ⟨h1, h2, h3, h4⟩
    refine ⟨⟨⟨h1, h2⟩, ?_⟩, ?_⟩
    · unfold digs
      rw [List.all_eq_true]
      intro c hc
      have := h3 c hc
      simpa using this
    · by_cases e : (figs l).head? = some 48
      · rw [h4 e]
        rfl
      · simp [e]
theorem NumQ.ne {n : Nat} {l : List Nat} (h : NumQ n l) : l ≠ [] := fun e => by
  have := h.f1
  rw [e] at this
  exact absurd this (by decide)
theorem NumQ.lt {n : Nat} {l : List Nat} (h : NumQ n l) : (numV l).natAbs < 10 ^ (figs l).length := by
  rw [numV_abs h.ne]
  exact digitsVal_lt h.all
theorem NumQ.ge {n : Nat} {l : List Nat} (h : NumQ n l) (h2 : 2 ≤ (figs l).length) : 10 ^ ((figs l).length - 1) ≤ (numV l).natAbs := by
  rw [numV_abs h.ne]
  have hl := h.lead
  have ha := h.all
  cases e : figs l with
  | nil =>
    rw [e] at h2
    exact absurd h2 (by decide)
  | cons c r =>
    rw [e] at hl ha h2
    have hc : c ≠ 48 := fun z => by
      have := hl (by rw [z]; rfl)
      rw [this] at e
      have e2 : figs [48] = [48] := rfl
      rw [e2] at e
      have := (List.cons.inj e).2
      rw [← this, List.length_singleton] at h2
      omega
    rw [List.length_cons, Nat.add_sub_cancel]
    exact digitsVal_ge ha hc
theorem NumQ.zero {n : Nat} {l : List Nat} (h : NumQ n l) (h0 : numV l = 0) : l = [48] := by
  have hl := h.lt
  by_cases h2 : 2 ≤ (figs l).length
  · have := h.ge h2
    rw [h0] at this
    have p : 0 < 10 ^ ((figs l).length - 1) := Nat.pow_pos (by decide)
    rw [Int.natAbs_zero] at this
    omega
  · have h1 := h.f1
    have ab := numV_abs h.ne
    rw [h0] at ab
    have hl := h.lead
    have ha := h.all
    cases e : figs l with
    | nil =>
      rw [e] at h1
      exact absurd h1 (by decide)
    | cons c r =>
      rw [e] at hl ha h2 ab
      have er : r = [] := by
        cases r with
        | nil => rfl
        | cons x y =>
          rw [List.length_cons, List.length_cons] at h2
          omega
      subst er
      rw [digitsVal_cons] at ab
      have hc := ha.head
      have : digitsVal [] = 0 := rfl
      rw [this] at ab
      have ec : c = 48 := by
        simp at ab
        omega
      exact hl (by rw [ec]; rfl)
theorem NumQ.mono {n k : Nat} {l : List Nat} (h : NumQ n l) (e : (figs l).length ≤ k) : NumQ k l := ⟨h.f1, e, h.all, h.lead⟩
/-- a number of 14 figures that is small has fewer -/
theorem NumQ.small {n k : Nat} {l : List Nat} (h : NumQ n l) (hk : 1 ≤ k) (hv : (numV l).natAbs < 10 ^ k) : NumQ k l := by
  refine h.mono ?_
  by_cases h2 : 2 ≤ (figs l).length
  · have := h.ge h2
    by_cases e : (figs l).length ≤ k
    · exact e
    · have p : 10 ^ k ≤ 10 ^ ((figs l).length - 1) := Nat.pow_le_pow_right (by decide) (by omega)
      omega
  · omega
theorem intText_num {n : Nat} {w : Str} (h : NumQ n (tl w)) (hw : w.length ≤ 4300) : intText? w = some (numV (tl w)) := by
  have ha := h.all
  cases e : tl w with
  | nil => exact absurd e h.ne
  | cons c r =>
    rw [e] at ha
    by_cases hc : c = 45
    · subst hc
      have h1 := h.f1
      rw [e, figs_neg] at h1
      exact intText_neg e ha (fun z => by rw [z] at h1; exact absurd h1 (by decide)) hw
    · rw [figs_pos hc] at ha
      rw [numV_pos hc, ← e]
      exact intText_digits (by show AllDigits (tl w); rw [e]; exact ha) (by show tl w ≠ []; rw [e]; exact fun z => by cases z) hw
theorem figs_ge (l : List Nat) : l.length ≤ (figs l).length + 1 := by
  cases l with
  | nil => exact Nat.zero_le _
  | cons c r =>
    by_cases hc : c = 45
    · subst hc
      rw [figs_neg]
      exact Nat.le_refl _
    · rw [figs_pos hc]
      omega
theorem NumQ.len {n : Nat} {w : Str} (h : NumQ n (tl w)) : w.length ≤ n + 1 := by
  have h1 := figs_ge (tl w)
  have h2 := h.fn
  rw [TL.len_tl]
  show (tl w).length ≤ _
  omega
end OG
set_option Elab.async false
set_option linter.all false
set_option maxRecDepth 100000
set_option maxHeartbeats 4000000
namespace OG
open PySem PySem.Spec PyProof.Rows L2
theorem lc_signs {x : Str} {te : TE} {sl : Nat} {σ : L2.St} {H1 : Hp} {D : Addr} {Qd : Hp → Prop} (f : Nat → Bool) (hx : x.length ≤ 16000000) (hD : H1 D = none)
    (hte : ∀ (c : Nat) (H' : Hp) (Q' : VK), Q' (.bl (f c)) H' → te ((wipe σ [sl]).set sl (some (.str ⟨#[c]⟩))) H' Q')
    (hw : ∀ v : Option V, wipe ((wipe σ [sl]).set sl v) [sl] = wipe σ [sl])
    (hd : ∀ (H6 : Hp), Same H1 H6 → H6 D = some (.lst (((tl x).map f).map V.bl)) → Qd H6) :
    ∃ W : Nat → Nat → Hp → Prop, (∃ m, W 0 m (upd H1 D (.lst []))) ∧ ∀ i n H, W i n H →
      ((Its x).stop i H ∧ Qd H) ∨ ((Its x).go i H ∧ ∃ Nx : Hp → Prop, (∀ H', Nx H' → ∃ m', m' < n ∧ W (i + 1) m' H') ∧ ∀ y H', (Its x).yld i H y H' → gName sl y (wipe σ [sl]) H' fun σ2 H2 => wipe σ2 [sl] = wipe σ [sl] ∧ tYes σ2 H2 fun b H3 =>
        if b = true then te σ2 H3 fun y H4 => ∃ acc, H4 D = some (.lst acc) ∧ acc.length < sizeLine ∧ Nx (upd H4 D (.lst (acc ++ [y]))) else Nx H3) := by
  have hl : (tl x).length = x.cps.size := Array.length_toList ..
  refine ⟨fun i n H => n = x.cps.size - i ∧ i ≤ x.cps.size ∧ Same H1 H ∧ H D = some (.lst ((((tl x).map f).take i).map V.bl)), ⟨_, rfl, Nat.zero_le _, same_new hD, upd_same⟩, ?_⟩
  rintro i n H ⟨rfl, hi, s, h1⟩
  by_cases hlt : i < x.cps.size
  · refine .inr ⟨hlt, fun H' => Same H1 H' ∧ H' D = some (.lst ((((tl x).map f).take (i + 1)).map V.bl)), fun H' p' => ⟨x.cps.size - (i + 1), by omega, rfl, hlt, p'⟩, fun v H' hy => ?_⟩
    obtain ⟨rfl, c, hc, rfl⟩ := hy
    refine ⟨hw _, ?_⟩
    refine hte c H' _ ?_
    have hc' : (tl x)[i]? = some c := by
      rw [← hc]
      exact Array.getElem?_toList
    refine ⟨_, h1, ?_, fun a o ho => ?_, ?_⟩
    · rw [List.length_map, List.length_take, List.length_map, hl]
      have hx' : x.cps.size ≤ 16000000 := hx
      exact Nat.lt_of_le_of_lt (show _ ≤ 16000000 by omega) (by decide)
    · rw [upd_ne (ne_of_none ho hD)]
      exact s _ _ ho
    · rw [upd_same, take_more (l := (tl x).map f) (i := i) (x := f c) (by rw [List.getElem?_map, hc']; rfl), List.map_append]
      rfl
  · have e : i = x.cps.size := by omega
    subst e
    refine .inl ⟨Nat.le_refl _, hd H s ?_⟩
    rw [List.take_of_length_le (by rw [List.length_map, hl]; exact Nat.le_refl _)] at h1
    exact h1
theorem lc_same {K : PySem.W.Frag} {a : Addr} {xs : List V} {te : TE} {sl : Nat} {σ : L2.St} {H1 : Hp} {D : Addr} {Qd : Hp → Prop} (f : V → V) (hx : xs.length ≤ 16000000) (ha : SqL K H1 a xs) (hD : H1 D = none)
    (hte : ∀ (x : V) (H' : Hp) (Q' : VK), x ∈ xs → Same H1 H' → (∀ H'', Same H' H'' → Q' (f x) H'') → te ((wipe σ [sl]).set sl (some x)) H' Q')
    (hw : ∀ v : Option V, wipe ((wipe σ [sl]).set sl v) [sl] = wipe σ [sl])
    (hd : ∀ (H6 : Hp), Same H1 H6 → H6 D = some (.lst (xs.map f)) → Qd H6) :
    ∃ W : Nat → Nat → Hp → Prop, (∃ m, W 0 m (upd H1 D (.lst []))) ∧ ∀ i n H, W i n H →
      ((Itl K a).stop i H ∧ Qd H) ∨ ((Itl K a).go i H ∧ ∃ Nx : Hp → Prop, (∀ H', Nx H' → ∃ m', m' < n ∧ W (i + 1) m' H') ∧ ∀ y H', (Itl K a).yld i H y H' → gName sl y (wipe σ [sl]) H' fun σ2 H2 => wipe σ2 [sl] = wipe σ [sl] ∧ tYes σ2 H2 fun b H3 =>
        if b = true then te σ2 H3 fun y H4 => ∃ acc, H4 D = some (.lst acc) ∧ acc.length < sizeLine ∧ Nx (upd H4 D (.lst (acc ++ [y]))) else Nx H3) := by
  refine lc_list (K := K) (a := a) (xs := xs) (fun i H' => Same H1 H' ∧ H' D = some (.lst ((xs.map f).take i))) ⟨same_new hD, upd_same⟩ (fun i H' _ ⟨s, _⟩ => s.seq ha) ?_ ?_
  · rintro i x H' hx' ⟨s, h1⟩
    have hi := (List.getElem?_eq_some_iff.mp hx').1
    refine ⟨hw _, ?_⟩
    refine hte x H' _ (List.mem_of_getElem? hx') s fun H'' s2 => ?_
    refine ⟨_, s2 _ _ h1, ?_, fun b o ho => ?_, ?_⟩
    · rw [List.length_take, List.length_map]
      exact Nat.lt_of_le_of_lt (show _ ≤ 16000000 by omega) (by decide)
    · rw [upd_ne (ne_of_none ho hD)]
      exact s2 _ _ (s _ _ ho)
    · rw [upd_same, take_more (l := xs.map f) (i := i) (x := f x) (by rw [List.getElem?_map, hx']; rfl)]
  · rintro H' ⟨s, h1⟩
    rw [List.take_of_length_le (by rw [List.length_map]; exact Nat.le_refl _)] at h1
    exact hd H' s h1
theorem all_id {α : Type} (l : List α) (f : α → Bool) : ((l.map f).all id) = l.all f := by
  rw [List.all_map]
  rfl
def isOf (w s : Str) : Bool := decide (0 < w.length) && (tl w).all fun c => decide (c ∈ tl s)
def fig10 : Str := "0123456789"
theorem fig_mem (c : Nat) : decide (c ∈ tl ("0123456789" : Str)) = (decide (48 ≤ c) && decide (c ≤ 57)) := by
  have e : tl ("0123456789" : Str) = [48, 49, 50, 51, 52, 53, 54, 55, 56, 57] := by decide +kernel
  rw [e]
  by_cases h : 48 ≤ c ∧ c ≤ 57
  · rw [decide_eq_true h.1, decide_eq_true h.2]
    refine decide_eq_true ?_
    rcases (show c = 48 ∨ c = 49 ∨ c = 50 ∨ c = 51 ∨ c = 52 ∨ c = 53 ∨ c = 54 ∨ c = 55 ∨ c = 56 ∨ c = 57 by omega) with e | e | e | e | e | e | e | e | e | e <;> rw [e] <;> decide
  · have : ¬ c ∈ [48, 49, 50, 51, 52, 53, 54, 55, 56, 57] := fun m => h (by
      simp only [List.mem_cons, List.mem_nil_iff, or_false] at m
      omega)
    rw [decide_eq_false this]
    by_cases h1 : 48 ≤ c
    · rw [decide_eq_true h1, decide_eq_false (fun h2 => h ⟨h1, h2⟩)]
      rfl
    · rw [decide_eq_false h1]
      rfl
theorem isOf_fig (w : Str) : isOf w "0123456789" = (decide (0 < (tl w).length) && digs (tl w)) := by
  unfold isOf digs
  rw [TL.len_tl]
  congr 1
  congr 1
  funext c
  exact fig_mem c
def isNmB (n : Nat) (z : Str) : Bool := decide (z.length ≤ n) && isOf z "abcdefghijklmnopqrstuvwxyz"
section
variable {P : Program} {w : World} {K : PySem.W.Frag} {mg : Str → Option Value} {base : Heap}
end
end OG
set_option Elab.async false
set_option linter.all false
set_option maxRecDepth 100000
set_option maxHeartbeats 4000000
namespace OGX
open PySem PySem.Spec PySem.Calls PySem.NumText PyProof.Rows
/-! int(text), a long text -/
theorem wp_textL {M : Model} {A : Around} {E : Value → Shared → Prop} {s : Shared} {Q : Value → Shared → Prop} {v : Value} {text : List Nat} {n : Int} (hd : PySem.W.Looks M s.heap Builtin.intMaxStrDigits 4300)
    (hs : ¬ (text.takeWhile (· != 0)).length ≤ 640) (hr : (int_private% "readNumeral") 4300 10 (text.takeWhile (· != 0)) = (int_private% "Numeral.value") n)
    (ha : ((text.takeWhile (· != 0)).length == text.length) = true) (h : Q (.int n s.toks) { s with toks := s.toks + 1 }) :
    wpAny M A ((int_private% "intFromText") v text 10) Q E s := by
  obtain ⟨hp, g, d, tk, os⟩ := s
  repeat (any_goals (first
    | assumption
    | (with_reducible refine wpAny_ite_false (decide_eq_false hs) ?_)
    | (with_reducible refine wpAny_ite_true (decide_eq_true ha) ?_)
    | (with_reducible refine hd.here ?_)
    | wp_step))
  all_goals (try rw [hr])
  all_goals (try dsimp only)
  repeat (any_goals (first
    | assumption
    | (with_reducible refine wpAny_ite_true (decide_eq_true ha) ?_)
    | wp_step))
structure HidL (p : Prop) : Prop where
  out : p
theorem meets_textL {x : PySem.Str} {u : Tok} {n : Int} (hz : x.length ≤ sizeLine) (hl : ¬ (numSeenOf x).length ≤ 640) (hn : PySem.intText? x = some n) : Meets (Builtin.«int.__new__» ⟨[.type "int", .str x u], []⟩) (fun _ R s => (∀ M, PySem.W.Looks M s.heap Builtin.intMaxStrDigits 4300) ∧ R (.ok (.ret (.int n s.toks))) { s with toks := s.toks + 1 }) :=
  .of_wp fun P w A R s h => by
    obtain ⟨hp, g, d, tk, os⟩ := s
    obtain ⟨hd, h⟩ := h
    have f1 := F.conv_sub_int
    have f2 := F.madeHere_int
    have f3 := PySem.W.KIN.str_int
    have f4 := PySem.W.KIN.str_idx
    have f5 := PySem.W.KIN.str_trunc
    have f6 : typeOf (.str x u) = pure (.type "str") := rfl
    have hr : (int_private% "readNumeral") 4300 10 (numSeenOf x) = (int_private% "Numeral.value") n ∧ ((numSeenOf x).length == (numTextOf x).length) = true := by
      rcases read4300 x hz with ⟨m, h1, h2, h3⟩ | ⟨h1, _⟩
      · rw [hn] at h1
        injection h1 with h1
        subst h1
        exact ⟨h3, h2⟩
      · rw [hn] at h1
        cases h1
    have hk := HidL.mk (And.intro hl hr)
    have hdd := HidL.mk hd
    clear hl hr hn hz hd
    repeat (any_goals (first
      | assumption
      | ((with_reducible show wpAny _ _ ((int_private% "intFromText") _ _ _) _ _ _); refine wp_textL (hdd.out _) hk.out.1 hk.out.2.1 hk.out.2.2 ?_)
      | wp_step))
    all_goals first | exact ⟨_, rfl, h⟩ | skip
theorem seen_long {x : PySem.Str} {n : Int} (ha : x.cps.all (· < 128) = true) (hn : PySem.intText? x = some n) (hl : ¬ x.length ≤ 640) : ¬ (numSeenOf x).length ≤ 640 := by
  have e : ((numSeenOf x).length == (numTextOf x).length) = true := by
    by_cases e : ((numSeenOf x).length == (numTextOf x).length) = true
    · exact e
    · unfold PySem.intText? at hn
      rw [if_neg e] at hn
      exact nomatch hn
  have e2 : (numTextOf x).length = x.length := by
    show (if x.cps.all (· < 128) then x.cps.toList else Unicode.numberText x.cps.toList).length = x.length
    rw [if_pos ha]
    exact Array.length_toList
  rw [beq_iff_eq.mp e, e2]
  exact hl
open L2 in
/-- int(text), where the limit of figures is the first one -/
theorem call_int_strL {X : Cx} (hd : PySem.W.nsIn X.K cStatics "sys.int_max_str_digits" = some none) : CallR X (.type "int") (fun xs H Q => ∃ a n, xs = [.str a] ∧ PySem.intText? a = some n ∧ a.length ≤ sizeLine ∧ a.cps.all (· < 128) = true ∧ Q (.int n) H) := by
  intro pins s σ H xs us Q I rs h
  obtain ⟨a, n, rfl, hn, hl, ha, h⟩ := h
  cases rs with
  | cons r1 rs =>
    cases rs
    obtain ⟨t, rfl⟩ := r1
    by_cases hs : a.length ≤ 640
    · exact PySem.W.KIN.call_text hn hs ⟨.int n, H, I.tok _, ⟨_, rfl⟩, h⟩
    · have lk : ∀ M, PySem.W.Looks M s.heap Builtin.intMaxStrDigits 4300 := fun M => by
        unfold Builtin.intMaxStrDigits
        exact (PySem.W.looks_nsIn I.kIn hd).andThen .now
      exact call_int_1 (meets_textL hl (seen_long ha hn hs) hn) ⟨lk, rfl, ⟨.int n, H, I.tok _, ⟨_, rfl⟩, h⟩⟩
end OGX
set_option Elab.async false
set_option linter.all false
set_option maxRecDepth 100000
set_option maxHeartbeats 8000000
namespace OG
open PySem PySem.Spec PyProof.Rows L2
theorem le_line {n : Nat} (h : n ≤ 16000000) : n ≤ sizeLine := Nat.le_trans h (by decide)
theorem starts0 (f : Str) : Txt.startswith f "0" = decide ((tl f).head? = some 48) := by
  unfold Txt.startswith
  rw [PySem.StrLaws.subAt_eq, List.drop_zero]
  have e1 : (("0" : Str).length) = 1 := rfl
  have e2 : (("0" : Str)).cps.toList = [48] := rfl
  rw [e1, e2, TL.len_tl]
  show (decide (0 + 1 ≤ (tl f).length) && (((tl f).take 1) == [48])) = _
  cases h : tl f with
  | nil => rfl
  | cons c r =>
    show (decide (0 + 1 ≤ r.length + 1) && ([c] == [48])) = decide (some c = some 48)
    rw [decide_eq_true (show 0 + 1 ≤ r.length + 1 by omega), Bool.true_and]
    by_cases hc : c = 48
    · rw [hc]
      rfl
    · rw [decide_eq_false (fun z => hc (Option.some.inj z))]
      simpa using hc
theorem NumQ.ascii {n : Nat} {w : Str} (h : NumQ n (tl w)) : w.cps.all (· < 128) = true := by
  rw [← Array.all_toList, List.all_eq_true]
  intro c hc
  have ha := h.all
  have hc : c ∈ tl w := hc
  refine decide_eq_true ?_
  cases e : tl w with
  | nil =>
    rw [e] at hc
    cases hc
  | cons d r =>
    rw [e] at hc ha
    by_cases hd : d = 45
    · subst hd
      rw [figs_neg] at ha
      rcases List.mem_cons.mp hc with rfl | hc
      · decide
      · have := ha c hc
        omega
    · rw [figs_pos hd] at ha
      have := ha c hc
      omega
def oint (c : Bool) (n : Int) : V := if c then .int n else .non
theorem str_eq {a b : Str} : decide (V.str a = V.str b) = decide (tl a = tl b) := by
  by_cases h : a = b
  · rw [h, decide_eq_true rfl, decide_eq_true rfl]
  · rw [decide_eq_false (fun z => h (V.str.inj z)), decide_eq_false (fun z => h (TL.ext_tl z))]
section
variable {P : Program} {w : World} {K : PySem.W.Frag} {mg : Str → Option Value} {base : Heap}
def spIsOf : Sp := fun vs H Q _ => ∃ (w s : Str), vs = [.str w, .str s] ∧ w.length ≤ 10000000 ∧ ∀ H', Same H H' → Q (.bl (isOf w s)) H'
theorem ok_is_of (T : Txt K mg) : FnOk P w K mg base CX0 1 T.f_is_of T.fd_is_of ["word", "signs"] (spIsOf) := by
  refine T.F_is_of.ok sc_is_of (fun vs H Q E h => ?_) (fun cdv A outer s H vs Q E hr h => ?_)
  · obtain ⟨w, s, rfl, _⟩ := h
    rfl
  · obtain ⟨w, sg, rfl, hl, q⟩ := h
    refine ⟨_, (pss_one (ps_ret (pe_and (pe_cmpR op_gt (pe_callB call_len_str (by rfl) T.n_len PySem.boot_len (pa_cons (pv 0) pa_nil)) pe_int (nomark _)) (pe_one (pe_callB (cr_all rfl) (by rfl) T.n_all (by decide +kernel) (pa_cons (pe_lc (own := [("sign", 2)]) (g := gName 2) (by rfl) sc_is_of.nd (pi_str (pv 0)) (blkOk_by (own := [("sign", 2)]) (by rfl)) (fun _ _ _ _ _ => (pg_name (i := 2) sc_is_of.nd rfl (Or.inl rfl))) (fun _ _ _ _ _ => pts_nil) (fun _ _ _ _ _ => (pe_cmpR op_in_sign (pv 2) (pv 1) rfl))) pa_nil)))))), ?_⟩
    refine ⟨.str w, rfl, w, rfl, le_line (by omega), _, _, rfl, rfl, _, rfl, ?_⟩
    refine ite2 (fun h0 => ?_) (fun h0 => ?_)
    · refine ⟨.str w, rfl, w, rfl, fun D hD => ?_⟩
      refine lc_signs (x := w) (fun c => decide (c ∈ tl sg)) (by omega) hD (fun c H' Q' hq => ?_) (fun _ => rfl) (fun H6 s6 h6 => ?_)
      · exact ⟨_, rfl, .str sg, rfl, c, sg, rfl, rfl, hq⟩
      · refine ⟨D, (tl w).map fun c => decide (c ∈ tl sg), rfl, SqL.of h6, ?_⟩
        rw [all_id]
        have e := q H6 s6
        unfold isOf at e
        have h0 : 0 < (w.length : Int) := of_decide_eq_true h0
        rw [decide_eq_true (show 0 < w.length by omega), Bool.true_and] at e
        exact e
    · have e := q H (Same.refl H)
      unfold isOf at e
      have h0 : ¬ 0 < (w.length : Int) := of_decide_eq_false (Bool.eq_false_iff.mpr h0)
      rw [decide_eq_false (show ¬ 0 < w.length by omega), Bool.false_and] at e
      exact e
def spIsLetters : Sp := fun vs H Q _ => ∃ (w : Str) (n : Nat), vs = [.str w, .int (n : Int)] ∧ w.length ≤ 10000000 ∧ ∀ H', Same H H' → Q (.bl (isNmB n w)) H'
theorem ok_is_letters (T : Txt K mg) : FnOk P w K mg base CX0 2 T.f_is_letters T.fd_is_letters ["word", "most"] (spIsLetters) := by
  refine T.F_is_letters.ok sc_is_letters (fun vs H Q E h => ?_) (fun cdv A outer s H vs Q E hr h => ?_)
  · obtain ⟨w, n, rfl, _⟩ := h
    rfl
  · obtain ⟨w, n, rfl, hl, q⟩ := h
    refine ⟨_, (pss_one (ps_ret (pe_and (pe_cmpR op_le (pe_callB call_len_str (by rfl) T.n_len PySem.boot_len (pa_cons (pv 0) pa_nil)) (pv 1) (nomark _)) (pe_one (pe_call (ok_is_of T) (hr.mono (by decide)) (by rfl) T.g_is_of T.F_is_of.kp T.b_is_of .nil pass0 (pa_cons (pv 0) (pa_cons (C8.pe_gc (by rfl) T.m_LETTERS) pa_nil))))))), ?_⟩
    refine ⟨.str w, rfl, w, rfl, le_line (by omega), .int n, rfl, _, _, rfl, rfl, _, rfl, ?_⟩
    refine ite2 (fun h0 => ?_) (fun h0 => ?_)
    · have h0 : (w.length : Int) ≤ n := of_decide_eq_true h0
      refine ⟨.str w, rfl, w, _, rfl, hl, fun H' s' => ?_⟩
      have e := q H' s'
      unfold isNmB at e
      rw [decide_eq_true (show w.length ≤ n by omega), Bool.true_and] at e
      exact e
    · have h0 : ¬ (w.length : Int) ≤ n := of_decide_eq_false (Bool.eq_false_iff.mpr h0)
      have e := q H (Same.refl H)
      unfold isNmB at e
      rw [decide_eq_false (show ¬ w.length ≤ n by omega), Bool.false_and] at e
      exact e
def spIntOf : Sp := fun vs H Q _ => ∃ (w : Str) (n : Nat), vs = [.str w, .int (n : Int)] ∧ w.length ≤ 10000000 ∧ n ≤ 4000 ∧ ∀ H', Same H H' → Q (oint (numQ n (tl w)) (numV (tl w))) H'
theorem ok_integer_of (T : Txt K mg) : FnOk P w K mg base CX0 2 T.f_integer_of T.fd_integer_of ["word", "most"] (spIntOf) := by
  refine T.F_integer_of.ok sc_integer_of (fun vs H Q E h => ?_) (fun cdv A outer s H vs Q E hr h => ?_)
  · obtain ⟨w, n, rfl, _⟩ := h
    rfl
  · obtain ⟨w, n, rfl, hl, hn, q⟩ := h
    refine ⟨_, (pss_cons (ps_set (i := 2) sc_integer_of.nd rfl (Or.inl rfl) (pe_bm PySem.F.plainAttrs_str PySem.F.slot_str_removeprefix PySem.F.type_str_removeprefix mt_removeprefix (pv 0) (pa_cons pe_str pa_nil)))
  (pss_cons (ps_if (PW.pt (pw_or (pt_cmpR op_gt (pe_callB call_len_str (by rfl) T.n_len PySem.boot_len (pa_cons (pv 2) pa_nil)) (pv 1) (nomark _)) (pw_or1 (pt_not (pt_val (pe_call (ok_is_of T) (hr.mono (by decide)) (by rfl) T.g_is_of T.F_is_of.kp T.b_is_of .nil pass0 (pa_cons (pv 2) (pa_cons (C8.pe_gc (by rfl) T.m_FIGURES) pa_nil)))))))) (pss_one (ps_ret pe_non)) pss_nil)
  (pss_cons (ps_if (PW.pt (pw_or (pt_cmpR op_eq (pv 0) pe_str (nomark _)) (pw_or1 (PW.pt (pw_and (pt_val (pe_m1 PySem.F.slot_str_startswith PySem.F.type_str_startswith mt_startswith (pv 2) pe_str)) (pw_and1 (pt_cmpR op_gt (pe_callB call_len_str (by rfl) T.n_len PySem.boot_len (pa_cons (pv 2) pa_nil)) pe_int (nomark _)))))))) (pss_one (ps_ret pe_non)) pss_nil)
  (pss_one (ps_ret (pe_callTy (OGX.call_int_strL T.dig) (by rfl) T.n_int (by decide +kernel) (pa_cons (pv 0) pa_nil))))))), ?_⟩
    refine ⟨.str w, rfl, rfl, w, _, rfl, rfl, le_line (by omega), ?_⟩
    generalize hf : Txt.removeprefix w "-" = f
    have hft : tl f = figs (tl w) := by rw [← hf]; exact rp w
    have hfl : f.length = (figs (tl w)).length := by rw [TL.len_tl]; exact congrArg List.length hft
    have hfw : f.length ≤ 10000000 := by
      have := figs_le (tl w)
      rw [hfl]
      rw [TL.len_tl] at hl
      exact Nat.le_trans this hl
    have no : ∀ H', Same H H' → numQ n (tl w) = false → Q .non H' := fun H' s' e => by
      have e2 := q H' s'
      rw [e] at e2
      exact e2
    refine ⟨.str f, rfl, f, rfl, le_line (by omega), .int n, rfl, _, _, rfl, rfl, _, rfl, ?_⟩
    refine ite2 (fun h0 => ?_) (fun h0 => ?_)
    · have h0 : (n : Int) < f.length := of_decide_eq_true h0
      refine no H (Same.refl H) ?_
      unfold numQ
      rw [decide_eq_false (show ¬ (figs (tl w)).length ≤ n by omega), Bool.and_false, Bool.false_and, Bool.false_and]
    · have h0 : ¬ (n : Int) < f.length := of_decide_eq_false (Bool.eq_false_iff.mpr h0)
      refine ⟨.str f, rfl, f, _, rfl, hfw, fun H1 s1 => ?_⟩
      rw [isOf_fig, hft]
      refine ⟨_, rfl, ?_⟩
      generalize hc1 : (decide (0 < (figs (tl w)).length) && digs (figs (tl w))) = c1
      cases c1 with
      | false =>
        refine no H1 s1 ?_
        unfold numQ
        rw [Bool.and_eq_false_iff, decide_eq_false_iff_not] at hc1
        rcases hc1 with e | e
        · rw [decide_eq_false (show ¬ 1 ≤ (figs (tl w)).length by omega), Bool.false_and, Bool.false_and, Bool.false_and]
        · rw [e, Bool.and_false, Bool.false_and]
      | true =>
        rw [Bool.and_eq_true, decide_eq_true_eq] at hc1
        have base : numQ n (tl w) = !(decide ((figs (tl w)).head? = some 48) && !decide (tl w = [48])) := by
          unfold numQ
          rw [decide_eq_true (show 1 ≤ (figs (tl w)).length by omega), decide_eq_true (show (figs (tl w)).length ≤ n by omega), hc1.2]
          rfl
        refine ⟨.str w, rfl, rfl, _, rfl, ?_⟩
        rw [str_eq]
        have em : tl ("-0" : Str) = [45, 48] := rfl
        rw [em]
        refine ite2 (fun hm => ?_) (fun hm => ?_)
        · have hm : tl w = [45, 48] := of_decide_eq_true hm
          refine no H1 s1 ?_
          rw [base, hm]
          rfl
        · have hm : ¬ tl w = [45, 48] := of_decide_eq_false (Bool.eq_false_iff.mpr hm)
          refine ⟨.str f, rfl, ⟨_, rfl⟩, f, _, rfl, rfl, _, rfl, ?_⟩
          rw [starts0, hft]
          have fin : ∀ H2, Same H H2 → numQ n (tl w) = true → ∃ (a : Str) (n_1 : Int), [V.str w] = [V.str a] ∧ PySem.intText? a = some n_1 ∧ a.length ≤ sizeLine ∧ a.cps.all (· < 128) = true ∧ Q (.int n_1) H2 := fun H2 s2 e => by
            have nq := numQ_iff.mp e
            have wl := nq.len
            refine ⟨w, _, rfl, intText_num nq (by omega), le_line (by omega), nq.ascii, ?_⟩
            have e2 := q H2 s2
            rw [e] at e2
            exact e2
          refine ite2 (fun hs => ?_) (fun hs => ?_)
          · have hs : (figs (tl w)).head? = some 48 := of_decide_eq_true hs
            refine ⟨.str f, rfl, f, rfl, le_line (by omega), _, _, rfl, rfl, _, rfl, ?_⟩
            refine ite2 (fun h2 => ?_) (fun h2 => ?_)
            · have h2 : 1 < (f.length : Int) := of_decide_eq_true h2
              refine no H1 s1 ?_
              rw [base, decide_eq_true hs]
              by_cases e : tl w = [48]
              · rw [e] at hfl
                have : (figs [48]).length = 1 := rfl
                omega
              · rw [decide_eq_false e]
                rfl
            · have h2 : ¬ 1 < (f.length : Int) := of_decide_eq_false (Bool.eq_false_iff.mpr h2)
              refine ⟨_, rfl, fin H1 s1 ?_⟩
              rw [base, decide_eq_true hs]
              have e : tl w = [48] := by
                cases hw : tl w with
                | nil =>
                  rw [hw] at hs
                  cases hs
                | cons c r =>
                  rw [hw] at hs hfl hm
                  by_cases hc : c = 45
                  · subst hc
                    rw [figs_neg] at hs hfl
                    cases r with
                    | nil => cases hs
                    | cons d r' =>
                      have ed : d = 48 := Option.some.inj hs
                      rw [List.length_cons] at hfl
                      have er : r' = [] := List.eq_nil_of_length_eq_zero (by omega)
                      rw [ed, er] at hm
                      exact absurd rfl hm
                  · rw [figs_pos hc] at hs hfl
                    have ed : c = 48 := Option.some.inj hs
                    rw [List.length_cons] at hfl
                    have er : r = [] := List.eq_nil_of_length_eq_zero (by omega)
                    rw [ed, er]
              rw [decide_eq_true e]
              rfl
          · have hs : ¬ (figs (tl w)).head? = some 48 := of_decide_eq_false (Bool.eq_false_iff.mpr hs)
            refine ⟨_, rfl, fin H1 s1 ?_⟩
            rw [base, decide_eq_false hs]
            rfl
end
end OG
set_option Elab.async false
set_option linter.all false
set_option maxRecDepth 100000
set_option maxHeartbeats 4000000
namespace OG
open PySem PySem.Spec PyProof.Rows L2
theorem inV_str (z : Str) (ms : List Str) : inV (.str z) (ms.map V.str) = decide (z ∈ ms) := by
  unfold inV
  rw [List.any_map]
  by_cases h : z ∈ ms
  · rw [decide_eq_true h, List.any_eq_true]
    exact ⟨z, h, by show (z == z) = true; exact beq_self_eq_true z⟩
  · rw [decide_eq_false h, List.any_eq_false]
    intro y hy e
    have e : (y == z) = true := e
    exact h (by rw [← eq_of_beq e]; exact hy)
theorem inV_int (z : Int) (ms : List Int) : inV (.int z) (ms.map V.int) = decide (z ∈ ms) := by
  unfold inV
  rw [List.any_map]
  by_cases h : z ∈ ms
  · rw [decide_eq_true h, List.any_eq_true]
    exact ⟨z, h, by show (z == z) = true; exact beq_self_eq_true z⟩
  · rw [decide_eq_false h, List.any_eq_false]
    intro y hy e
    have e : (y == z) = true := e
    exact h (by rw [← eq_of_beq e]; exact hy)
theorem inV_non (ms : List Int) : inV .non (ms.map V.int) = false := by
  unfold inV
  rw [List.any_map, List.any_eq_false]
  intro y hy e
  cases e
theorem flat_strs (ms : List Str) : (ms.map V.str).all flatV = true := by
  rw [List.all_map, List.all_eq_true]
  intro y _
  rfl
theorem flat_ints (ms : List Int) : (ms.map V.int).all flatV = true := by
  rw [List.all_map, List.all_eq_true]
  intro y _
  rfl
theorem nm_abc {n : Nat} {z : Str} (h : isNmB n z = true) : 0 < z.length ∧ z.length ≤ n ∧ ∀ c ∈ tl z, c ∈ abc := by
  unfold isNmB isOf at h
  rw [Bool.and_eq_true, Bool.and_eq_true, decide_eq_true_eq, decide_eq_true_eq, List.all_eq_true] at h
  refine ⟨h.2.1, h.1, fun c hc => ?_⟩
  have := of_decide_eq_true (h.2.2 c hc)
  rwa [show tl ("abcdefghijklmnopqrstuvwxyz" : Str) = abc from abc_tl] at this
theorem dp_strs {K : PySem.W.Frag} {H : Hp} : ∀ ms : List Str, DpAll K H (ms.map V.str) (ms.map PyData.str)
  | [] => .nil
  | z :: r => .cons (.str z) (dp_strs r)
theorem depth_strs : ∀ ms : List Str, PyData.depthAll (ms.map PyData.str) = 0
  | [] => by simp [PyData.depthAll]
  | z :: r => by
    rw [List.map_cons]
    simp [PyData.depthAll, PyData.depth, depth_strs r]
theorem lay_strs : ∀ {ms : List Str}, (∀ z ∈ ms, PyData.strOk z = true) → PyData.canLayAll0 (ms.map PyData.str) = true
  | [], _ => by simp [PyData.canLayAll0]
  | z :: r, h => by
    rw [List.map_cons]
    simp [PyData.canLayAll0, PyData.canLay0, lay_strs fun y hy => h y (List.mem_cons_of_mem _ hy), h z List.mem_cons_self]
theorem shaped_strs {ms : List Str} (h : ∀ z ∈ ms, PyData.strOk z = true) : SeqAt.shaped (.list (ms.map PyData.str)) = true := by
  unfold SeqAt.shaped
  rw [Bool.and_eq_true]
  refine ⟨?_, decide_eq_true ?_⟩
  · simp only [PyData.canLay0]
    exact lay_strs h
  · simp only [PyData.depth, depth_strs]
    decide
theorem shaped_nil : SeqAt.shaped (.list []) = true := shaped_strs (ms := []) fun _ h => by cases h
theorem eqv_nil (ms : List Str) : PyData.eqv (.list (ms.map PyData.str)) (.list []) = decide (ms = []) := by
  cases ms with
  | nil => simp [PyData.eqv, PyData.eqvAll]
  | cons z r => simp [PyData.eqv, PyData.eqvAll]
theorem strOk_nm {n : Nat} {z : Str} (h : isNmB n z = true) : PyData.strOk z = true := by
  have h3 := (nm_abc h).2.2
  unfold PyData.strOk
  rw [← Array.all_toList, List.all_eq_true]
  intro c hc
  have := h3 c hc
  unfold abc at this
  refine decide_eq_true ?_
  simp only [List.mem_cons, List.mem_nil_iff, or_false] at this
  omega
/-! lines of books -/
end OG
set_option Elab.async false
set_option linter.all false
set_option maxRecDepth 100000
set_option maxHeartbeats 8000000
namespace OG
open PySem PySem.Spec PyProof.Rows L2
theorem spl_ne (S : List Nat) (l : List Nat) : ∀ (k : Nat) (acc : List Nat), TL.spl S k acc l ≠ [] := by
  induction l with
  | nil =>
    intro k acc h
    unfold TL.spl at h
    cases h
  | cons c r ih =>
    intro k acc h
    cases k with
    | zero =>
      simp only [TL.spl] at h
      split at h
      · cases h
      · exact ih _ _ h
    | succ k =>
      simp only [TL.spl] at h
      exact ih _ _ h
theorem split_facts (z y : Str) (hy : y.length = 1) (h256 : y.cps.all (· < 256) = true) : Txt.split z y ≠ [] ∧ (Txt.split z y).length ≤ z.length + 1 ∧ ∀ p ∈ Txt.split z y, p.length ≤ z.length := by
  have hyn : TL.tl y ≠ [] := fun e => by
    have := TL.len_tl y
    rw [e, hy] at this
    cases this
  have e := TL.split_spl z y hyn (TL.kind_ok h256)
  have hne : Txt.split z y ≠ [] := fun n => by
    rw [n] at e
    exact spl_ne _ _ _ _ e.symm
  refine ⟨hne, ?_⟩
  have j := PySem.StrLaws.join_split z y
  have jt := congrArg TL.tl j
  rw [TL.tl_join] at jt
  have key : ∀ (S : List Nat) (ls : List (List Nat)), ls ≠ [] → S.length = 1 → (TL.joinL S ls).length + 1 = (ls.map fun l => l.length + 1).sum := by
    intro S ls
    induction ls with
    | nil => intro h _; exact absurd rfl h
    | cons p r ih =>
      intro _ hS
      cases r with
      | nil =>
        show p.length + 1 = _
        simp
      | cons q r' =>
        have ih := ih (by simp) hS
        show (p ++ (S ++ TL.joinL S (q :: r'))).length + 1 = _
        rw [List.length_append, List.length_append, List.map_cons, List.sum_cons, ← ih]
        omega
  have k := key (TL.tl y) ((Txt.split z y).map TL.tl) (by simpa using hne) (by rw [← TL.len_tl]; exact hy)
  rw [jt, ← TL.len_tl, List.map_map] at k
  have lens : ∀ ls : List Str, ls.length ≤ (ls.map ((fun l => l.length + 1) ∘ TL.tl)).sum ∧ ∀ p ∈ ls, p.length + 1 ≤ (ls.map ((fun l => l.length + 1) ∘ TL.tl)).sum := by
    intro ls
    induction ls with
    | nil => exact ⟨Nat.le_refl _, fun p h => by cases h⟩
    | cons p r ih =>
      rw [List.map_cons, List.sum_cons]
      have ep : ((fun l : List Nat => l.length + 1) ∘ TL.tl) p = p.length + 1 := by
        show (TL.tl p).length + 1 = _
        rw [← TL.len_tl]
      rw [ep]
      refine ⟨by rw [List.length_cons]; omega, fun q hq => ?_⟩
      rcases List.mem_cons.mp hq with e | e
      · rw [e]
        omega
      · have := ih.2 q e
        omega
  obtain ⟨l1, l2⟩ := lens (Txt.split z y)
  exact ⟨by omega, fun p hp => by have := l2 p hp; omega⟩
theorem head_num : ∀ (n : Nat), (TL.numL n).head? = some 48 → n = 0 := by
  intro n
  induction n using Nat.strongRecOn with
  | _ n ih =>
    intro h
    by_cases h10 : n < 10
    · rw [TL.numL_lt h10] at h
      have : 48 + n = 48 := Option.some.inj h
      omega
    · rw [TL.numL_step (by omega)] at h
      have hne := TL.numL_ne (n / 10)
      cases e : TL.numL (n / 10) with
      | nil => exact absurd e hne
      | cons c r =>
        rw [e] at h
        have h : (TL.numL (n / 10)).head? = some 48 := by
          rw [e]
          exact h
        have := ih (n / 10) (by omega) h
        omega
theorem tl_istr_nat (n : Nat) : tl (istr (n : Int)) = TL.numL n := TL.tl_num n
theorem tl_istr_neg {n : Int} (h : n < 0) : tl (istr n) = 45 :: tl (istr (0 - n)) := by
  unfold istr
  rw [toString_neg h]
  show (Str.ofString ("-" ++ toString (0 - n))).cps.toList = 45 :: (Str.ofString (toString (0 - n))).cps.toList
  rw [signs_ofString, signs_ofString, String.toList_append, List.map_append]
  rfl
theorem num_q {n : Nat} (h : n ≤ 1000000000000) : NumQ 14 (TL.numL n) ∧ numV (TL.numL n) = (n : Int) := by
  have ha := TL.numL_digits n
  have hv := TL.numL_val n
  have hl := TL.numL_len (n := n) (k := 13) (by decide) (by omega)
  have hh := head_num n
  have hne := TL.numL_ne n
  cases e : TL.numL n with
  | nil => exact absurd e hne
  | cons c r =>
    rw [e] at ha hv hl hh
    have hc := ha.head
    have hc45 : c ≠ 45 := by omega
    refine ⟨⟨?_, ?_, ?_, ?_⟩, ?_⟩
    · rw [figs_pos hc45]
      exact Nat.succ_le_succ (Nat.zero_le _)
    · rw [figs_pos hc45]
      omega
    · rw [figs_pos hc45]
      exact ha
    · rw [figs_pos hc45]
      intro z
      have n0 := hh z
      rw [n0] at e
      rw [← e]
      rfl
    · rw [numV_pos hc45, hv]
theorem istr_q {i : Int} (h1 : -1000000000000 ≤ i) (h2 : i ≤ 1000000000000) : numQ 14 (tl (istr i)) = true ∧ numV (tl (istr i)) = i := by
  by_cases h : i < 0
  · obtain ⟨n, hn⟩ : ∃ n : Nat, 0 - i = (n : Int) := ⟨(0 - i).toNat, by omega⟩
    have q := num_q (n := n) (by omega)
    rw [tl_istr_neg h, hn, tl_istr_nat]
    have n0 : n ≠ 0 := by omega
    have hd : (TL.numL n).head? ≠ some 48 := fun z => n0 (head_num n z)
    refine ⟨numQ_iff.mpr ⟨?_, ?_, ?_, ?_⟩, ?_⟩
    · rw [figs_neg]
      exact List.length_pos_iff.mpr (TL.numL_ne n)
    · rw [figs_neg]
      exact Nat.le_trans (TL.numL_len (k := 13) (by decide) (by omega)) (by decide)
    · rw [figs_neg]
      exact TL.numL_digits n
    · rw [figs_neg]
      exact fun z => absurd z hd
    · rw [numV_neg, TL.numL_val]
      omega
  · obtain ⟨n, rfl⟩ := Int.eq_ofNat_of_zero_le (show 0 ≤ i by omega)
    have q := num_q (n := n) (by omega)
    rw [show ((n : Nat) : Int) = (n : Int) from rfl, tl_istr_nat]
    exact ⟨numQ_iff.mpr q.1, q.2⟩
/-! texts put together, read back -/
theorem istr_free {i : Int} {c : Nat} (hc : c < 45) : c ∉ tl (istr i) := by
  by_cases h : i < 0
  · obtain ⟨n, hn⟩ : ∃ n : Nat, 0 - i = (n : Int) := ⟨(0 - i).toNat, by omega⟩
    rw [tl_istr_neg h, hn, tl_istr_nat]
    intro m
    rcases List.mem_cons.mp m with e | e
    · omega
    · exact TL.numL_free (.inl (by omega)) e
  · obtain ⟨n, rfl⟩ := Int.eq_ofNat_of_zero_le (show 0 ≤ i by omega)
    rw [show ((n : Nat) : Int) = (n : Int) from rfl, tl_istr_nat]
    exact TL.numL_free (.inl (by omega))
theorem nm_free {z : Str} {c : Nat} (h : IsNm z) (hc : c < 97) : c ∉ tl z := fun m => by
  have := h.2.2 c m
  unfold abc at this
  simp only [List.mem_cons, List.mem_nil_iff, or_false] at this
  omega
theorem split_nl {ls : List Str} (hne : ls ≠ []) (h : ∀ l ∈ ls, 10 ∉ tl l) : Txt.split (Txt.join "\n" ls) "\n" = ls := TL.split_join (s := 10) (S := []) (by decide +kernel) (by decide +kernel) hne h
theorem split_sp {ls : List Str} (hne : ls ≠ []) (h : ∀ l ∈ ls, 32 ∉ tl l) : Txt.split (Txt.join " " ls) " " = ls := TL.split_join (s := 32) (S := []) (by decide +kernel) (by decide +kernel) hne h
theorem joinL_cons (S a : List Nat) : ∀ {r : List (List Nat)}, r ≠ [] → TL.joinL S (a :: r) = a ++ (S ++ TL.joinL S r)
  | [], h => absurd rfl h
  | _ :: _, _ => rfl
theorem joinL_app (S : List Nat) : ∀ {xs ys : List (List Nat)}, xs ≠ [] → ys ≠ [] → TL.joinL S (xs ++ ys) = TL.joinL S xs ++ (S ++ TL.joinL S ys)
  | [], _, h, _ => absurd rfl h
  | [x], ys, _, h => joinL_cons S x h
  | x :: y :: r, ys, _, h => by
    have ih := joinL_app S (xs := y :: r) (ys := ys) (by simp) h
    show TL.joinL S (x :: ((y :: r) ++ ys)) = _
    rw [joinL_cons S x (by simp), ih, joinL_cons S x (r := y :: r) (by simp)]
    simp only [List.append_assoc]
theorem tl_jn (y : Str) (ls : List Str) : TL.tl (Txt.join y ls) = TL.joinL (TL.tl y) (ls.map TL.tl) := by rw [TL.join_eq, TL.tl_join]
theorem str_ext {a b : Str} (h : TL.tl a = TL.tl b) : a = b := TL.ext_tl h
theorem nmB_of {z : Str} (h : IsNm z) : isNmB 4 z = true := by
  unfold isNmB isOf
  rw [decide_eq_true h.2.1, decide_eq_true (show 0 < z.length from h.1), Bool.true_and, Bool.true_and, List.all_eq_true]
  intro c hc
  refine decide_eq_true ?_
  rw [show tl ("abcdefghijklmnopqrstuvwxyz" : Str) = abc from abc_tl]
  exact h.2.2 c hc
theorem joinL_mem {S : List Nat} {c : Nat} : ∀ {ls : List (List Nat)}, c ∈ TL.joinL S ls → c ∈ S ∨ ∃ l ∈ ls, c ∈ l
  | [], h => by cases h
  | [a], h => .inr ⟨a, List.mem_cons_self, h⟩
  | a :: b :: r, h => by
    rw [joinL_cons S a (by simp)] at h
    rcases List.mem_append.mp h with h | h
    · exact .inr ⟨a, List.mem_cons_self, h⟩
    · rcases List.mem_append.mp h with h | h
      · exact .inl h
      · rcases joinL_mem h with h | ⟨l, hl, hc⟩
        · exact .inl h
        · exact .inr ⟨l, List.mem_cons_of_mem _ hl, hc⟩
theorem join_free {ls : List Str} {c : Nat} (hc : c ≠ 32) (h : ∀ l ∈ ls, c ∉ TL.tl l) : c ∉ TL.tl (Txt.join " " ls) := fun m => by
  rw [tl_jn] at m
  rcases joinL_mem m with m | ⟨l, hl, m⟩
  · have e : TL.tl (" " : Str) = [32] := by decide +kernel
    rw [e, List.mem_singleton] at m
    exact hc m
  · obtain ⟨z, hz, rfl⟩ := List.mem_map.mp hl
    exact h z hz m
theorem has_key : ∀ {kvs : List (Key × V)} {ms : List Str}, kvs.map (·.1) = ms.map Sum.inr → ∀ z : Str, (valV kvs (.inr z)).isSome = decide (z ∈ ms)
  | [], [], _, z => rfl
  | [], _ :: _, h, _ => by cases h
  | _ :: _, [], h, _ => by cases h
  | p :: r, m :: ms, h, z => by
    have h1 : p.1 = .inr m := (List.cons.inj h).1
    have h2 : r.map (·.1) = ms.map Sum.inr := (List.cons.inj h).2
    by_cases e : z = m
    · rw [valV_pos (by rw [h1, e]), decide_eq_true (by rw [e]; exact List.mem_cons_self)]
      rfl
    · rw [valV_neg (by rw [h1]; exact k_ne fun q => e q.symm), has_key h2 z]
      by_cases hz : z ∈ ms
      · rw [decide_eq_true hz, decide_eq_true (List.mem_cons_of_mem _ hz)]
      · rw [decide_eq_false hz, decide_eq_false fun q => (List.mem_cons.mp q).elim e hz]
theorem ne_nat (n k : Nat) : (!decide (V.int (n : Int) = V.int (k : Int))) = !decide (n = k) := by
  by_cases h : n = k
  · rw [h, decide_eq_true rfl, decide_eq_true rfl]
  · rw [decide_eq_false h, decide_eq_false (fun z : V.int (n : Int) = V.int (k : Int) => h (Int.ofNat.inj (V.int.inj z)))]
theorem eq_nat (n k : Nat) : decide (V.int (n : Int) = V.int (k : Int)) = decide (n = k) := by
  by_cases h : n = k
  · rw [h, decide_eq_true rfl, decide_eq_true rfl]
  · rw [decide_eq_false h, decide_eq_false (fun z : V.int (n : Int) = V.int (k : Int) => h (Int.ofNat.inj (V.int.inj z)))]
theorem rgV_nat (n : Nat) : rgV 0 (n : Int) = (List.range n).map fun (i : Nat) => V.int (i : Int) := by
  unfold rgV
  rw [show ((n : Int) - 0).toNat = n by omega]
  exact List.map_congr_left fun i _ => by rw [Int.zero_add]
theorem range_at {m j : Nat} {x : V} (h : ((List.range m).map fun (i : Nat) => V.int (i : Int))[j]? = some x) : j < m ∧ x = .int (j : Int) := by
  have hj := (List.getElem?_eq_some_iff.mp h).1
  rw [List.length_map, List.length_range] at hj
  rw [List.getElem?_map, List.getElem?_range hj] at h
  exact ⟨hj, (Option.some.inj h).symm⟩
end OG
set_option Elab.async false
set_option linter.all false
set_option maxRecDepth 100000
set_option maxHeartbeats 4000000
namespace OGX
open PySem PySem.Spec PyProof.Rows L2
/-- what a value shows, by depth -/
def Leaf : V → PyData → Prop
  | .non, d => d = .none
  | .bl b, d => d = .bool b
  | .int i, d => d = .int i
  | .str z, d => d = .str z
  | _, _ => False
def Rds (K : PySem.W.Frag) (H : Hp) : Nat → V → PyData → Prop
  | 0, v, d => Leaf v d
  | n + 1, v, d => Leaf v d ∨ ∃ (a : Addr) (xs : List V) (ds : List PyData), v = .ref a ∧ Paired (Rds K H n) xs ds ∧ ((H a = some (.lst xs) ∧ d = .list ds) ∨ (SqT K H a xs ∧ d = .tuple ds))
section
variable {X : Cx} {pins : List (Addr × Obj)} {σ : L2.St} {H : Hp} {s : Shared}
theorem leaf_reads {h : Heap} : ∀ {v : V} {d : PyData} {u : Value}, Leaf v d → RelV v u → ∃ as, Reads h u d as
  | .non, _, _, e, r => by
    cases e
    cases (show _ = Value.none from r)
    exact ⟨_, .none⟩
  | .bl b, _, _, e, r => by
    cases e
    cases (show _ = Value.bool b from r)
    exact ⟨_, .bool b⟩
  | .int i, _, _, e, r => by
    cases e
    obtain ⟨t, q⟩ := (show ∃ t, _ = Value.int i t from r)
    cases q
    exact ⟨_, .int i t⟩
  | .str z, _, _, e, r => by
    cases e
    obtain ⟨t, q⟩ := (show ∃ t, _ = Value.str z t from r)
    cases q
    exact ⟨_, .str z t⟩
theorem all_reads {h : Heap} {R : V → PyData → Prop} (one : ∀ v d u, R v d → RelV v u → ∃ as, Reads h u d as) : ∀ {xs : List V} {ds : List PyData} {us : List Value}, Paired R xs ds → Vals xs us → ∃ as, ReadsAll h us ds as
  | _, _, _, .nil, .nil => ⟨_, .nil⟩
  | _, _, _, .cons p q, .cons r t => by
    obtain ⟨a1, h1⟩ := one _ _ _ p r
    obtain ⟨a2, h2⟩ := all_reads one q t
    exact ⟨_, .cons h1 h2⟩
theorem reads_of (I : Inv X pins σ H s) : ∀ (n : Nat) (v : V) (d : PyData) (u : Value), Rds X.K H n v d → RelV v u → ∃ as, Reads s.heap u d as
  | 0, _, _, _, e, r => leaf_reads e r
  | n + 1, v, d, u, e, r => by
    rcases e with e | ⟨a, xs, ds, rfl, p, ⟨ha, rfl⟩ | ⟨ha, rfl⟩⟩
    · exact leaf_reads e r
    · cases (show u = Value.ref a from r)
      obtain ⟨_, its, k, rv, e⟩ := (show ObjOk X.prog X.w H s.heap a (.lst xs) from I.hok a _ ha)
      obtain ⟨as, ra⟩ := all_reads (reads_of I n) p rv
      exact ⟨_, .list e rfl rfl ra⟩
    · cases (show u = Value.ref a from r)
      obtain ⟨its, rv, ⟨o, h1, h2, k, h3⟩, _⟩ := I.tuple ha
      obtain ⟨as, ra⟩ := all_reads (reads_of I n) p rv
      exact ⟨_, .tuple h1 h2 h3 ra⟩
/-- repr of what reads as data -/
def rRepr (K : PySem.W.Frag) : List V → Hp → VK → Prop := fun xs H Q => ∃ (v : V) (n : Nat) (d : PyData), xs = [v] ∧ Rds K H n v d ∧ d.showable = true ∧ d.hasDict = false ∧ d.depth ≤ 60 ∧ d.shown.length ≤ sizeLine ∧ Q (.str d.shown) H
theorem repr_go {X : Cx} {pins : List (Addr × Obj)} {σ : L2.St} {H : Hp} {s : Shared} {Q : VK} {u : Value} {d : PyData} {as : List Addr} (hg : X.A.guards = some []) (hu : X.A.units + 64 < cLine) (I : Inv X pins σ H s) (R : Reads s.heap u d as)
    (hs : d.showable = true) (hd : d.hasDict = false) (hp : d.depth ≤ 60) (hz : d.shown.length ≤ sizeLine) (q : Q (.str d.shown) H) : wpAny (model X.prog X.w) X.A (call (.builtin "repr") [u]) (EP X pins σ Q) X.xe s := by
  have back : ∀ t' : Nat, EP X pins σ Q (.str d.shown s.toks) { s with toks := t' } := fun t' => ⟨.str d.shown, H, I.tok _, ⟨_, rfl⟩, q⟩
  have far : ∀ {a : Addr}, Reads s.heap (.ref a) d as → wpAny (model X.prog X.w) X.A (call (.builtin "repr") [.ref a]) (EP X pins σ Q) X.xe s := fun {a} R =>
    repr_of_reads' R hs (PyData.noDict_hsm hd) hg (by omega) (fun _ _ z => z) (fun h' t tk k => ⟨.str d.shown, H, I.kept k, ⟨_, rfl⟩, q⟩) hz
  cases R with
  | none =>
    rw [PyData.shown_none] at back
    exact PySem.P.repr_of_none (back _)
  | bool b =>
    rw [PyData.shown_bool] at back
    refine PySem.P.repr_of_bool ?_
    cases b <;> exact back _
  | int i t =>
    rw [PyData.shown_int] at back
    exact PySem.P.repr_of_int (of_decide_eq_true hs) (back _)
  | str x t =>
    rw [PyData.shown_str] at back hz
    exact PySem.P.repr_of_str (back _) hz
  | list h1 h2 h3 h4 => exact far (.list h1 h2 h3 h4)
  | tuple h1 h2 h3 h4 => exact far (.tuple h1 h2 h3 h4)
  | dict h1 h2 h3 h4 h5 => exact far (.dict h1 h2 h3 h4 h5)
theorem call_reprD (hg : X.A.guards = some []) (hu : X.A.units + 64 < cLine) : CallR X (.builtin "repr") (rRepr X.K) := by
  intro pins s σ H xs us Q I r h
  obtain ⟨v, n, d, rfl, e, hs, hd, hp, hz, q⟩ := h
  obtain ⟨u, rfl, ru⟩ := vals1 r
  obtain ⟨as, R⟩ := reads_of I n v d u e ru
  exact repr_go hg hu I R hs hd hp hz q
end
section
variable {X : Cx} {CX : CXT} {k : Nat} {f C : Addr} {fd : FuncData} {ps : List Str} {sp : Sp} {E : XK}
/-- an own method called by the interpreter, under a builtin -/
theorem run_own {A : Around} {pins : List (Addr × Obj)} {σ : L2.St} {H : Hp} {s : Shared} {Q : VK} {us : List Value} {vs : List V} (F : FnOk X.prog X.w X.K X.mg X.base CX k f fd ps sp) (hr : Room k A) (hf : A.frames = X.A.frames) (hb : Binds X.K fd ps []) (hx : Passes CX X E)
    (I : Inv X pins σ H s) (r : Vals vs us) (h : sp vs H Q E) : wpAny (model X.prog X.w) A (call (.ref f) us) (EP X pins σ Q) X.xe s := by
  have hl : us.length = ps.length := by rw [← r.length]; exact F.len _ _ _ _ h
  have e0 := I.env0
  have e1 : Env0 X.prog X.w X.K X.mg X.base A X.stack s H := ⟨by rw [hf]; exact e0.frames, e0.mod, e0.bs, e0.bsz, e0.funs, e0.frf, e0.hok, e0.bare⟩
  have b := hb s us I.kIn (by rw [List.append_nil]; exact hl)
  rw [List.append_nil] at b
  refine wpAny_call (codeAny_mono (F.run A X.stack s H ⟨us, []⟩ us vs Q E hr e1 b r h) fun z s' hq => ?_)
  rcases z with e | fl
  · exact hx pins σ H s e s' I hq
  · rcases fl with _ | _ | _ | u
    all_goals first | exact I.after hq | exact hq.elim
/-- len(o), o with an own __len__ -/
theorem call_lenOwn (F : FnOk X.prog X.w X.K X.mg X.base CX k f fd ps sp) (hr : Room (k + 1) X.A) (hs : PySem.W.findIn X.K (.ref C) "__len__" = some (some (.ref f))) (hf : PySem.W.isFn X.K (.ref f) = true) (hb : Binds X.K fd ps []) (hx : Passes CX X E) :
    CallR X (.builtin "len") (fun xs H Q => ∃ (x dx : Addr) (fs : List (Str × V)), xs = [.ref x] ∧ H x = some (.ins C dx fs) ∧ sp [.ref x] H (fun v H' => ∃ n : Int, v = .int n ∧ 0 ≤ n ∧ n < 2 ^ 63 ∧ Q (.int n) H') E) := by
  intro pins s σ H xs us Q I r h
  obtain ⟨x, dx, fs, rfl, hx0, q⟩ := h
  obtain ⟨u, rfl, ru⟩ := vals1 r
  cases ru
  obtain ⟨mA, J, _⟩ := ins_get I.hok hx0
  obtain ⟨od, J, _⟩ := J.look
  obtain ⟨m, hF⟩ := I.fr
  refine PySem.W.len_K hF I.ok.mod.kin J hs hf (wpAny_mono (run_own (A := X.A.in1) F hr.in1 rfl hb hx I (.cons (show L2.RelV (.ref x) (Value.ref x) from rfl) .nil) q) (fun v s' z => ?_) fun _ _ z => z)
  obtain ⟨y, H', I', ry, n, rfl, n0, n1, q'⟩ := z
  obtain ⟨t, rfl⟩ := ry
  exact ⟨⟨n0, n1⟩, .int n, H', I'.tok _, ⟨_, rfl⟩, q'⟩
/-- v in o, o with an own __contains__ -/
def rInO (C : Addr) (sp : Sp) (E : XK) (neg : Bool) : R2 := fun x y H Q => ∃ (a dx : Addr) (fs : List (Str × V)), y = .ref a ∧ H a = some (.ins C dx fs) ∧ sp [.ref a, x] H (fun v H' => ∃ b, v = .bl b ∧ Q (.bl (if neg = true then !b else b)) H') E
theorem op_inOwn (F : FnOk X.prog X.w X.K X.mg X.base CX k f fd ps sp) (hr : Room k X.A) (hs : PySem.W.findIn X.K (.ref C) "__contains__" = some (some (.ref f))) (hf : PySem.W.isFn X.K (.ref f) = true) (hb : Binds X.K fd ps []) (hx : Passes CX X E) :
    OpR X (compareOp .In) (rInO C sp E false) := by
  intro pins s σ H x y v u Q I rx ry h
  obtain ⟨a, dx, fs, rfl, hx0, q⟩ := h
  cases ry
  obtain ⟨mA, J, _⟩ := ins_get I.hok hx0
  obtain ⟨od, J, _⟩ := J.look
  obtain ⟨m, hF⟩ := I.fr
  refine PySem.W.in_K hF I.ok.mod.kin J hs hf (wpAny_mono (run_own F hr rfl hb hx I (.cons (show L2.RelV (.ref a) (Value.ref a) from rfl) (.cons rx .nil)) q) (fun v s' z => ?_) fun _ _ z => z)
  obtain ⟨y, H', I', ry, b, rfl, q'⟩ := z
  cases ry
  exact wpAny_truthy_bool ⟨.bl b, H', I', rfl, q'⟩
theorem op_notInOwn (F : FnOk X.prog X.w X.K X.mg X.base CX k f fd ps sp) (hr : Room k X.A) (hs : PySem.W.findIn X.K (.ref C) "__contains__" = some (some (.ref f))) (hf : PySem.W.isFn X.K (.ref f) = true) (hb : Binds X.K fd ps []) (hx : Passes CX X E) :
    OpR X (compareOp .NotIn) (rInO C sp E true) := by
  intro pins s σ H x y v u Q I rx ry h
  obtain ⟨a, dx, fs, rfl, hx0, q⟩ := h
  cases ry
  obtain ⟨mA, J, _⟩ := ins_get I.hok hx0
  obtain ⟨od, J, _⟩ := J.look
  obtain ⟨m, hF⟩ := I.fr
  refine PySem.W.notIn_K hF I.ok.mod.kin J hs hf (wpAny_mono (run_own F hr rfl hb hx I (.cons (show L2.RelV (.ref a) (Value.ref a) from rfl) (.cons rx .nil)) q) (fun v s' z => ?_) fun _ _ z => z)
  obtain ⟨y, H', I', ry, b, rfl, q'⟩ := z
  cases ry
  exact wpAny_truthy_bool ⟨.bl (!b), H', I', rfl, q'⟩
/-- o == v, o with an own __eq__, v another such object or a text -/
def rEqO (K : PySem.W.Frag) (C : Addr) (sp : Sp) (E : XK) : R2 := fun x y H Q => ∃ (a dx : Addr) (fs : List (Str × V)), x = .ref a ∧ H a = some (.ins C dx fs) ∧ ((∃ (b dy : Addr) (gs : List (Str × V)), y = .ref b ∧ H b = some (.ins C dy gs)) ∨ ((∃ z, y = .str z) ∧ PySem.W.notFirst K C (.type "str") = true)) ∧
  sp [.ref a, y] H (fun v H' => ∃ b, v = .bl b ∧ Q (.bl b) H') E
theorem op_eqOwn (F : FnOk X.prog X.w X.K X.mg X.base CX k f fd ps sp) (hr : Room k X.A) (hs : PySem.W.findIn X.K (.ref C) "__eq__" = some (some (.ref f))) (hf : PySem.W.isFn X.K (.ref f) = true) (hb : Binds X.K fd ps []) (hx : Passes CX X E) :
    OpR X (compareOp .Eq) (rEqO X.K C sp E) := by
  intro pins s σ H x y v u Q I rx ry h
  obtain ⟨a, dx, fs, rfl, hx0, hy, q⟩ := h
  cases rx
  obtain ⟨mA, J, _⟩ := ins_get I.hok hx0
  obtain ⟨od, J, _⟩ := J.look
  obtain ⟨m, hF⟩ := I.fr
  have fin : ∀ tb, PySem.W.Looks (model X.prog X.w) s.heap (typeOf u) tb → PySem.W.notFirst X.K C tb = true → wpAny (model X.prog X.w) X.A (compareOp .Eq (.ref a) u) (EP X pins σ Q) X.xe s := fun tb ht hn =>
    PySem.W.cmp_K (op := .Eq) hr.units0 hF I.ok.mod.kin J ht hn hs hf (wpAny_mono (run_own F hr rfl hb hx I (.cons (show L2.RelV (.ref a) (Value.ref a) from rfl) (.cons ry .nil)) q) (fun v s' z => by
      obtain ⟨y, H', I', ry, b, rfl, q'⟩ := z
      cases ry
      exact ⟨.bl b, H', I', rfl, q'⟩) fun _ _ z => z)
  rcases hy with ⟨b, dy, gs, rfl, hb0⟩ | ⟨⟨z, rfl⟩, hn⟩
  · cases ry
    obtain ⟨mB, J', _⟩ := ins_get I.hok hb0
    obtain ⟨od', J', _⟩ := J'.look
    exact fin _ J'.type (by simp [PySem.W.notFirst])
  · obtain ⟨t, rfl⟩ := ry
    exact fin _ (PySem.W.Looks.of_pure rfl) hn
end
section
variable {X : Cx} {o e : Expr} {es : List Expr} {to : TE} {t : TA} {name : Str} {apos cpos : Pos} {id : String} {r : V → List V → Hp → VK → Prop}
/-- o.name(e, ..), o a tuple that stands as the very object -/
def tTupF (r : V → List V → Hp → VK → Prop) (to : TE) (t : TA) : TE := fun σ H Q => to σ H fun x H1 => (∃ (p : Addr) (ob : Obj) (ys : List V), x = .ref p ∧ H1 p = some (.frz ob (.tup ys)) ∧ ob.dict = none) ∧ t σ H1 fun xs H2 => r x xs H2 Q
theorem pe_tupF (pa : PlainAttrs "tuple") (slot : Slot "tuple" name id) (ty : typeOf (.builtin id) = pure (.type "method_descriptor")) (hm : MtR X id r) (ho : PE X o to) (ha : PA X (e :: es) t) (hbase : attributeBase o name X.env (eval o X.env) = eval o X.env := by rfl)
    (few : ((backTo cpos (starEach (e :: es) X.env)).all (fun x => !x.1) && (backToKw cpos (keywordEach [] X.env)).all (fun x => x.1.isSome) && decide ((e :: es).length + ([] : List Keyword).length + (if ([] : List Keyword).isEmpty then 0 else 1) < 30)) = true := by rfl)
    (line : (apos.endLine == cpos.line) = true := by rfl) (st : starEach (e :: es) X.env = (false, eval e X.env) :: starEach es X.env := by rfl) (pl : (backTo cpos (starEach es X.env)).any (·.1) = false := by rfl) :
    PE X (.Call (.Attribute o name apos) (e :: es) [] cpos) (tTupF r to t) := by
  refine ⟨fun pins s σ H Q I h => wpAny_Call_method_late hbase few line rfl (thn (ho.run pins s σ H _ I h) ?_)⟩
  rintro v s1 ⟨x, H1, I1, rx, ⟨p, ob, ys, rfl, hp, hd⟩, q⟩
  cases (show v = Value.ref p from rx)
  obtain ⟨g, _, _, _, ob', g1, g2, _⟩ := (show ObjOk X.prog X.w H1 s1.heap p (.frz ob (.tup ys)) from I1.hok p _ hp)
  refine ⟨"tuple", id, pa, slot, ty, ⟨ob', g1, g2⟩, fun a z => ?_, ?_⟩
  · cases z
    exact ⟨ob, g, hd⟩
  · have A := ha.run cpos pins s1 σ H1 _ I1 q
    rw [st] at A ⊢
    refine Calls.callWith_builtin (by show (false || (backTo cpos (starEach es X.env)).any (·.1)) = false; rw [pl] <;> rfl) (Calls.evalArgs_plain ?_)
    exact thn A fun us s2 ⟨vs, H2, I2, r2, q2⟩ => hm pins s2 σ H2 (.ref p) vs (.ref p) us Q I2 rfl r2 q2
end
end OGX
set_option Elab.async false
set_option linter.all false
set_option maxRecDepth 100000
set_option maxHeartbeats 4000000
namespace OG
open PySem PySem.Spec PyProof.Rows L2
/-- data that repr may be asked of -/
structure DOk (k c : Nat) (d : PyData) : Prop where
  sh : d.showable = true
  nd : d.hasDict = false
  dp : d.depth ≤ k
  ln : d.shown.length ≤ c
theorem DOk.mono {k c j e : Nat} {d : PyData} (h : DOk k c d) (h1 : k ≤ j) (h2 : c ≤ e) : DOk j e d := ⟨h.sh, h.nd, Nat.le_trans h.dp h1, Nat.le_trans h.ln h2⟩
theorem dok_int {i : Int} (h1 : -1000000000000 ≤ i) (h2 : i ≤ 1000000000000) : DOk 0 50 (.int i) := by
  refine ⟨?_, by simp only [PyData.hasDict], by simp only [PyData.depth]; exact Nat.le_refl _, ?_⟩
  · simp only [PyData.showable]
    exact decide_eq_true (small_log h1 h2)
  · rw [PyData.shown_int]
    exact Nat.le_trans (istr_len h1 h2) (by decide)
theorem dok_str {z : Str} (hz : IsNm z) : DOk 0 50 (.str z) := by
  refine ⟨by simp only [PyData.showable], by simp only [PyData.hasDict], by simp only [PyData.depth]; exact Nat.le_refl _, ?_⟩
  rw [PyData.shown_str]
  have h := StrLaws.reprText_len z fun c hc => by
    have h1 := hz.2.2 c hc
    have h2 : ∀ c ∈ abc, c < 16 ^ 8 := by decide +kernel
    exact h2 c h1
  have := hz.2.1
  omega
theorem dok_bool (b : Bool) : DOk 0 50 (.bool b) := by
  refine ⟨by simp only [PyData.showable], by simp only [PyData.hasDict], by simp only [PyData.depth]; exact Nat.le_refl _, ?_⟩
  rw [PyData.shown_bool]
  cases b <;> decide +kernel
theorem shownAll_map : ∀ ds : List PyData, PyData.shownAll ds = ds.map PyData.shown
  | [] => by rw [PyData.shownAll_nil]; rfl
  | d :: r => by rw [PyData.shownAll_cons, shownAll_map r]; rfl
theorem sum_le_mul {c : Nat} : ∀ {l : List Nat}, (∀ x ∈ l, x ≤ c) → l.sum ≤ c * l.length
  | [], _ => Nat.zero_le _
  | x :: r, h => by
    have h1 := h x List.mem_cons_self
    have h2 := sum_le_mul fun y hy => h y (List.mem_cons_of_mem _ hy)
    rw [List.sum_cons, List.length_cons, Nat.mul_succ]
    omega
theorem parts_ok {k c : Nat} : ∀ {ds : List PyData}, (∀ d ∈ ds, DOk k c d) → PyData.showableAll ds = true ∧ PyData.hasDictAll ds = false ∧ PyData.depthAll ds ≤ k
  | [], _ => by
    refine ⟨by simp only [PyData.showableAll], by simp only [PyData.hasDictAll], ?_⟩
    simp only [PyData.depthAll]
    exact Nat.zero_le _
  | d :: r, h => by
    have h1 := h d List.mem_cons_self
    obtain ⟨a, b, e⟩ := parts_ok fun y hy => h y (List.mem_cons_of_mem _ hy)
    refine ⟨by simp only [PyData.showableAll, h1.sh, a]; rfl, by simp only [PyData.hasDictAll, h1.nd, b]; rfl, ?_⟩
    simp only [PyData.depthAll]
    exact Nat.max_le.mpr ⟨h1.dp, e⟩
theorem parts_len {k c n : Nat} {ds : List PyData} (h : ∀ d ∈ ds, DOk k c d) (hn : ds.length ≤ n) : ((PyData.shownAll ds).map (·.length)).sum + 2 * (PyData.shownAll ds).length + 3 ≤ c * n + 2 * n + 3 := by
  rw [shownAll_map, List.length_map]
  have e := sum_le_mul (c := c) (l := (ds.map PyData.shown).map (·.length)) fun x hx => by
    obtain ⟨t, ht, rfl⟩ := List.mem_map.mp hx
    obtain ⟨d, hd, rfl⟩ := List.mem_map.mp ht
    exact (h d hd).ln
  rw [List.length_map, List.length_map] at e
  have := Nat.mul_le_mul_left c hn
  omega
theorem dok_list {k c n : Nat} {ds : List PyData} (h : ∀ d ∈ ds, DOk k c d) (hn : ds.length ≤ n) : DOk (k + 1) (c * n + 2 * n + 3) (.list ds) := by
  obtain ⟨a, b, e⟩ := parts_ok h
  refine ⟨by simp only [PyData.showable, a], by simp only [PyData.hasDict, b], by simp only [PyData.depth]; omega, ?_⟩
  simp only [PyData.shown]
  exact Nat.le_trans (listText_len_le _) (parts_len h hn)
theorem dok_tuple {k c n : Nat} {ds : List PyData} (h : ∀ d ∈ ds, DOk k c d) (hn : ds.length ≤ n) : DOk (k + 1) (c * n + 2 * n + 3) (.tuple ds) := by
  obtain ⟨a, b, e⟩ := parts_ok h
  refine ⟨by simp only [PyData.showable, a], by simp only [PyData.hasDict, b], by simp only [PyData.depth]; omega, ?_⟩
  simp only [PyData.shown]
  exact Nat.le_trans (tupleText_len_le _) (parts_len h hn)
theorem dok_strs {zs : List Str} (h : ∀ z ∈ zs, IsNm z) : ∀ d ∈ zs.map PyData.str, DOk 0 50 d := fun d hd => by
  obtain ⟨z, hz, rfl⟩ := List.mem_map.mp hd
  exact dok_str (h z hz)
theorem dok_ints {zs : List Int} (h : ∀ z ∈ zs, -1000000000000 ≤ z ∧ z ≤ 1000000000000) : ∀ d ∈ zs.map PyData.int, DOk 0 50 d := fun d hd => by
  obtain ⟨z, hz, rfl⟩ := List.mem_map.mp hd
  exact dok_int (h z hz).1 (h z hz).2
theorem dok_bools (zs : List Bool) : ∀ d ∈ zs.map PyData.bool, DOk 0 50 d := fun d hd => by
  obtain ⟨z, hz, rfl⟩ := List.mem_map.mp hd
  exact dok_bool z
/-- what stands in lists and tuples of leaves -/
theorem pr_strs {K : PySem.W.Frag} {H : Hp} (n : Nat) : ∀ zs : List Str, Paired (OGX.Rds K H n) (zs.map V.str) (zs.map PyData.str)
  | [] => .nil
  | z :: r => .cons (by cases n <;> first | exact rfl | exact .inl rfl) (pr_strs n r)
theorem pr_ints {K : PySem.W.Frag} {H : Hp} (n : Nat) : ∀ zs : List Int, Paired (OGX.Rds K H n) (zs.map V.int) (zs.map PyData.int)
  | [] => .nil
  | z :: r => .cons (by cases n <;> first | exact rfl | exact .inl rfl) (pr_ints n r)
theorem pr_bools {K : PySem.W.Frag} {H : Hp} (n : Nat) : ∀ zs : List Bool, Paired (OGX.Rds K H n) (zs.map V.bl) (zs.map PyData.bool)
  | [] => .nil
  | z :: r => .cons (by cases n <;> first | exact rfl | exact .inl rfl) (pr_bools n r)
theorem rds_list {K : PySem.W.Frag} {H : Hp} {n : Nat} {a : Addr} {xs : List V} {ds : List PyData} (h : H a = some (.lst xs)) (p : Paired (OGX.Rds K H n) xs ds) : OGX.Rds K H (n + 1) (.ref a) (.list ds) := .inr ⟨a, xs, ds, rfl, p, .inl ⟨h, rfl⟩⟩
theorem rds_tup {K : PySem.W.Frag} {H : Hp} {n : Nat} {a : Addr} {xs : List V} {ds : List PyData} (h : SqT K H a xs) (p : Paired (OGX.Rds K H n) xs ds) : OGX.Rds K H (n + 1) (.ref a) (.tuple ds) := .inr ⟨a, xs, ds, rfl, p, .inr ⟨h, rfl⟩⟩
end OG
set_option Elab.async false
set_option linter.all false
set_option maxRecDepth 100000
set_option maxHeartbeats 8000000
namespace OG
open PySem PySem.Spec PyProof.Rows L2
theorem str_at {xs : List Str} {i : Nat} {x : V} (h : (xs.map V.str)[i]? = some x) : ∃ z, xs[i]? = some z ∧ x = .str z := by
  rw [List.getElem?_map] at h
  cases e : xs[i]? with
  | none =>
    rw [e] at h
    cases h
  | some z =>
    rw [e] at h
    exact ⟨z, rfl, (Option.some.inj h).symm⟩
theorem int_at {xs : List Int} {i : Nat} {x : V} (h : (xs.map V.int)[i]? = some x) : ∃ z, xs[i]? = some z ∧ x = .int z := by
  rw [List.getElem?_map] at h
  cases e : xs[i]? with
  | none =>
    rw [e] at h
    cases h
  | some z =>
    rw [e] at h
    exact ⟨z, rfl, (Option.some.inj h).symm⟩
/-! tuples stay -/
def TK (H H' : Hp) : Prop := (∀ b xs, H b = some (.tup xs) → H' b = some (.tup xs)) ∧ ∀ b o xs, H b = some (.frz o (.tup xs)) → H' b = some (.frz o (.tup xs))
theorem TK.refl (H : Hp) : TK H H := ⟨fun _ _ h => h, fun _ _ _ h => h⟩
theorem TK.trans {H H1 H2 : Hp} (a : TK H H1) (b : TK H1 H2) : TK H H2 := ⟨fun c xs h => b.1 c xs (a.1 c xs h), fun c o xs h => b.2 c o xs (a.2 c o xs h)⟩
theorem Same.tk {H H' : Hp} (s : Same H H') : TK H H' := ⟨fun _ _ h => s _ _ h, fun _ _ _ h => s _ _ h⟩
theorem Kp.tk {p : Addr} {H H' : Hp} (k : Kp p H H') (hp : ∃ xs, H p = some (.lst xs)) : TK H H' := by
  obtain ⟨ys, hp⟩ := hp
  refine ⟨fun b xs h => k _ _ (fun z => ?_) h, fun b o xs h => k _ _ (fun z => ?_) h⟩
  · rw [z, hp] at h
    cases h
  · rw [z, hp] at h
    cases h
theorem tk_lst {H : Hp} {D : Addr} {xs : List V} {o : HO} (h : H D = some (.lst xs)) : TK H (upd H D o) := ⟨fun b ys e => by rw [upd_ne (fun z => by rw [z, h] at e; cases e)]; exact e, fun b u ys e => by rw [upd_ne (fun z => by rw [z, h] at e; cases e)]; exact e⟩
theorem tk_dK {H : Hp} {D : Addr} {kvs : List (Key × V)} {o : HO} (h : H D = some (.dK kvs)) : TK H (upd H D o) := ⟨fun b ys e => by rw [upd_ne (fun z => by rw [z, h] at e; cases e)]; exact e, fun b u ys e => by rw [upd_ne (fun z => by rw [z, h] at e; cases e)]; exact e⟩
theorem tk_new {H : Hp} {D : Addr} {o : HO} (h : H D = none) : TK H (upd H D o) := Same.tk (same_new h)
theorem ExtN.tk {H H' : Hp} (e : LamX.ExtN H H') : TK H H' := ⟨fun _ _ h => e _ _ h fun _ z => by (cases z), fun _ _ _ h => e _ _ h fun _ z => by (cases z)⟩
theorem SqT.tk {K : PySem.W.Frag} {H H' : Hp} {a : Addr} {xs : List V} (h : SqT K H a xs) (e : TK H H') : SqT K H' a xs :=
  h.elim (fun h => .inl (h.elim (fun h => .inl (e.1 _ _ h)) fun ⟨o, h⟩ => .inr ⟨o, e.2 _ _ _ h⟩)) fun h => .inr h
/-! data of tuples alone -/
mutual
inductive Td (K : PySem.W.Frag) (H : Hp) : V → PyData → Prop
  | non : Td K H .non .none
  | bl (b : Bool) : Td K H (.bl b) (.bool b)
  | int (i : Int) : Td K H (.int i) (.int i)
  | str (z : Str) : Td K H (.str z) (.str z)
  | tup {a : Addr} {xs : List V} {ds : List PyData} : SqT K H a xs → TdAll K H xs ds → Td K H (.ref a) (.tuple ds)
inductive TdAll (K : PySem.W.Frag) (H : Hp) : List V → List PyData → Prop
  | nil : TdAll K H [] []
  | cons {x : V} {d : PyData} {xs : List V} {ds : List PyData} : Td K H x d → TdAll K H xs ds → TdAll K H (x :: xs) (d :: ds)
end
mutual
theorem Td.mv {K : PySem.W.Frag} {H H' : Hp} (s : TK H H') : ∀ {v : V} {d : PyData}, Td K H v d → Td K H' v d
  | _, _, .non => .non
  | _, _, .bl b => .bl b
  | _, _, .int i => .int i
  | _, _, .str z => .str z
  | _, _, .tup h a => .tup (SqT.tk h s) (TdAll.mv s a)
theorem TdAll.mv {K : PySem.W.Frag} {H H' : Hp} (s : TK H H') : ∀ {vs : List V} {ds : List PyData}, TdAll K H vs ds → TdAll K H' vs ds
  | _, _, .nil => .nil
  | _, _, .cons h a => .cons (Td.mv s h) (TdAll.mv s a)
end
mutual
theorem Td.dp {K : PySem.W.Frag} {H : Hp} : ∀ {v : V} {d : PyData}, Td K H v d → Dp K H v d
  | _, _, .non => .non
  | _, _, .bl b => .bl b
  | _, _, .int i => .int i
  | _, _, .str z => .str z
  | _, _, .tup h a => .tup h (TdAll.dp a)
theorem TdAll.dp {K : PySem.W.Frag} {H : Hp} : ∀ {vs : List V} {ds : List PyData}, TdAll K H vs ds → DpAll K H vs ds
  | _, _, .nil => .nil
  | _, _, .cons h a => .cons (Td.dp h) (TdAll.dp a)
end
section
variable {K : PySem.W.Frag} {H : Hp}
theorem Td.tupI {v : V} {ds : List PyData} (h : Td K H v (.tuple ds)) : ∃ a xs, v = .ref a ∧ SqT K H a xs ∧ TdAll K H xs ds := by
  cases h with
  | tup h a => exact ⟨_, _, rfl, h, a⟩
theorem Td.strI {v : V} {z : Str} (h : Td K H v (.str z)) : v = .str z := by
  cases h
  rfl
theorem Td.intI {v : V} {i : Int} (h : Td K H v (.int i)) : v = .int i := by
  cases h
  rfl
theorem TdAll.nilI {xs : List V} (h : TdAll K H xs []) : xs = [] := by
  cases h
  rfl
theorem TdAll.consI {xs : List V} {d : PyData} {ds : List PyData} (h : TdAll K H xs (d :: ds)) : ∃ x r, xs = x :: r ∧ Td K H x d ∧ TdAll K H r ds := by
  cases h with
  | cons h a => exact ⟨_, _, rfl, h, a⟩
theorem TdAll.len : ∀ {xs : List V} {ds : List PyData}, TdAll K H xs ds → xs.length = ds.length
  | _, _, .nil => rfl
  | _, _, .cons _ t => congrArg (· + 1) (TdAll.len t)
theorem TdAll.at : ∀ {xs : List V} {ds : List PyData} {i : Nat} {d : PyData}, TdAll K H xs ds → ds[i]? = some d → ∃ x, xs[i]? = some x ∧ Td K H x d
  | _, _, i, _, .nil, h => by simp at h
  | _, _, 0, _, .cons h _, e => by
    cases Option.some.inj e
    exact ⟨_, rfl, h⟩
  | _, _, i + 1, _, .cons _ t, e => TdAll.at (i := i) t e
theorem TdAll.atV : ∀ {xs : List V} {ds : List PyData} {i : Nat} {x : V}, TdAll K H xs ds → xs[i]? = some x → ∃ d, ds[i]? = some d ∧ Td K H x d
  | _, _, i, _, .nil, h => by simp at h
  | _, _, 0, _, .cons h _, e => by
    cases Option.some.inj e
    exact ⟨_, rfl, h⟩
  | _, _, i + 1, _, .cons _ t, e => TdAll.atV (i := i) t e
theorem TdAll.snoc {x : V} {d : PyData} (h : Td K H x d) : ∀ {xs : List V} {ds : List PyData}, TdAll K H xs ds → TdAll K H (xs ++ [x]) (ds ++ [d])
  | _, _, .nil => .cons h .nil
  | _, _, .cons g t => .cons g (TdAll.snoc h t)
theorem tdAll_ints : ∀ gs : List Int, TdAll K H (gs.map V.int) (gs.map PyData.int)
  | [] => .nil
  | g :: r => .cons (.int g) (tdAll_ints r)
theorem tdAll_intsI : ∀ {xs : List V} {gs : List Int}, TdAll K H xs (gs.map PyData.int) → xs = gs.map V.int
  | _, [], .nil => rfl
  | _, g :: r, .cons h t => by rw [h.intI, tdAll_intsI t]; rfl
theorem tdAll_strs : ∀ gs : List Str, TdAll K H (gs.map V.str) (gs.map PyData.str)
  | [] => .nil
  | g :: r => .cons (.str g) (tdAll_strs r)
end
/-! gates -/
abbrev gsD (gs : List Int) : PyData := .tuple (gs.map PyData.int)
theorem Td.gs {K : PySem.W.Frag} {H : Hp} {v : V} {gs : List Int} (h : Td K H v (gsD gs)) : ∃ a, v = .ref a ∧ SqT K H a (gs.map V.int) := by
  obtain ⟨a, xs, rfl, h1, h2⟩ := h.tupI
  rw [tdAll_intsI h2] at h1
  exact ⟨a, rfl, h1⟩
theorem td_gs {K : PySem.W.Frag} {H : Hp} {a : Addr} {gs : List Int} (h : SqT K H a (gs.map V.int)) : Td K H (.ref a) (gsD gs) := .tup h (tdAll_ints gs)
structure GsOk (gs : List Int) : Prop where
  asc : gs.Pairwise (· < ·)
  rng : ∀ g ∈ gs, 1 ≤ g ∧ g ≤ 4
/-- those of 1 to 4 -/
def asc4 (P : Int → Bool) : List Int := ([1, 2, 3, 4] : List Int).filter P
theorem asc4_ok (P : Int → Bool) : GsOk (asc4 P) := by
  refine ⟨List.Pairwise.filter _ (by decide), fun g hg => ?_⟩
  have := (List.mem_filter.mp hg).1
  simp only [List.mem_cons, List.mem_nil_iff, or_false] at this
  omega
theorem asc_ext : ∀ {xs ys : List Int}, xs.Pairwise (· < ·) → ys.Pairwise (· < ·) → (∀ x, x ∈ xs ↔ x ∈ ys) → xs = ys
  | [], [], _, _, _ => rfl
  | [], y :: ys, _, _, h => by
    have := (h y).mpr List.mem_cons_self
    cases this
  | x :: xs, [], _, _, h => by
    have := (h x).mp List.mem_cons_self
    cases this
  | x :: xs, y :: ys, h1, h2, h => by
    rw [List.pairwise_cons] at h1 h2
    have e : x = y := by
      rcases List.mem_cons.mp ((h x).mp List.mem_cons_self) with e | hx
      · exact e
      · rcases List.mem_cons.mp ((h y).mpr List.mem_cons_self) with e | hy
        · exact e.symm
        · have := h2.1 x hx
          have := h1.1 y hy
          omega
    subst e
    rw [asc_ext h1.2 h2.2 fun z => ⟨fun hz => by
      rcases List.mem_cons.mp ((h z).mp (List.mem_cons_of_mem _ hz)) with e | hz'
      · have := h1.1 z hz
        omega
      · exact hz', fun hz => by
      rcases List.mem_cons.mp ((h z).mpr (List.mem_cons_of_mem _ hz)) with e | hz'
      · have := h2.1 z hz
        omega
      · exact hz'⟩]
theorem mem_asc4 {P : Int → Bool} {g : Int} : g ∈ asc4 P ↔ (1 ≤ g ∧ g ≤ 4) ∧ P g = true := by
  unfold asc4
  rw [List.mem_filter]
  simp only [List.mem_cons, List.mem_nil_iff, or_false]
  refine ⟨fun h => ⟨by omega, h.2⟩, fun h => ⟨by omega, h.2⟩⟩
theorem GsOk.eq_asc {gs : List Int} (h : GsOk gs) : gs = asc4 fun g => decide (g ∈ gs) := asc_ext h.asc (asc4_ok _).asc fun g => by
  rw [mem_asc4, decide_eq_true_eq]
  exact ⟨fun hg => ⟨h.rng g hg, hg⟩, fun h => h.2⟩
theorem GsOk.len {gs : List Int} (h : GsOk gs) : gs.length ≤ 4 := by
  rw [h.eq_asc]
  exact List.length_filter_le _ ([1, 2, 3, 4] : List Int)
theorem GsOk.filter {gs : List Int} (h : GsOk gs) (P : Int → Bool) : GsOk (gs.filter P) := ⟨h.asc.filter _, fun g hg => h.rng g (List.mem_filter.mp hg).1⟩
/-! what is known of lines: names, gates -/
abbrev Kn := List (Str × List Int)
def glk : Kn → Str → Option (List Int)
  | [], _ => none
  | (b, gs) :: r, a => if a = b then some gs else glk r a
theorem glk_app {kn : Kn} {b : Str} {gs : List Int} : ∀ {a : Str}, glk (kn ++ [(b, gs)]) a = match glk kn a with | some g => some g | none => if a = b then some gs else none := by
  intro a
  induction kn with
  | nil => rfl
  | cons p r ih =>
    obtain ⟨c, g⟩ := p
    show (if a = c then some g else glk (r ++ [(b, gs)]) a) = match (if a = c then some g else glk r a) with | some g => some g | none => if a = b then some gs else none
    by_cases e : a = c
    · rw [if_pos e, if_pos e]
    · rw [if_neg e, if_neg e]
      exact ih
theorem glk_some {kn : Kn} {a : Str} {gs : List Int} (h : glk kn a = some gs) : (a, gs) ∈ kn := by
  induction kn with
  | nil => cases h
  | cons p r ih =>
    obtain ⟨c, g⟩ := p
    have h : (if a = c then some g else glk r a) = some gs := h
    by_cases e : a = c
    · rw [if_pos e] at h
      cases h
      rw [e]
      exact List.mem_cons_self
    · rw [if_neg e] at h
      exact List.mem_cons_of_mem _ (ih h)
theorem glk_none {kn : Kn} {a : Str} : glk kn a = none ↔ a ∉ kn.map (·.1) := by
  induction kn with
  | nil => simp [glk]
  | cons p r ih =>
    obtain ⟨c, g⟩ := p
    show (if a = c then some g else glk r a) = none ↔ _
    by_cases e : a = c
    · rw [if_pos e]
      simp [e]
    · rw [if_neg e, ih]
      simp [e]
theorem glk_mem {kn : Kn} (nd : (kn.map (·.1)).Nodup) {a : Str} {gs : List Int} (h : (a, gs) ∈ kn) : glk kn a = some gs := by
  induction kn with
  | nil => cases h
  | cons p r ih =>
    obtain ⟨c, g⟩ := p
    rw [List.map_cons, List.nodup_cons] at nd
    show (if a = c then some g else glk r a) = some gs
    rcases List.mem_cons.mp h with e | h
    · cases e
      rw [if_pos rfl]
    · have : a ≠ c := fun e => nd.1 (by rw [← e]; exact List.mem_map.mpr ⟨_, h, rfl⟩)
      rw [if_neg this]
      exact ih nd.2 h
inductive KnD (K : PySem.W.Frag) (H : Hp) : List (Key × V) → Kn → Prop
  | nil : KnD K H [] []
  | cons {a : Str} {gs : List Int} {v : V} {kvs : List (Key × V)} {kn : Kn} : Td K H v (gsD gs) → KnD K H kvs kn → KnD K H ((.inr a, v) :: kvs) ((a, gs) :: kn)
theorem KnD.mv {K : PySem.W.Frag} {H H' : Hp} (s : TK H H') {kvs : List (Key × V)} {kn : Kn} (h : KnD K H kvs kn) : KnD K H' kvs kn := by
  induction h with
  | nil => exact .nil
  | cons h _ ih => exact .cons (h.mv s) ih
theorem KnD.keys {K : PySem.W.Frag} {H : Hp} : ∀ {kvs : List (Key × V)} {kn : Kn}, KnD K H kvs kn → kvs.map (·.1) = (kn.map (·.1)).map Sum.inr
  | _, _, .nil => rfl
  | _, _, .cons _ t => by rw [List.map_cons, List.map_cons, List.map_cons, KnD.keys t]
theorem KnD.len {K : PySem.W.Frag} {H : Hp} : ∀ {kvs : List (Key × V)} {kn : Kn}, KnD K H kvs kn → kvs.length = kn.length
  | _, _, .nil => rfl
  | _, _, .cons _ t => congrArg (· + 1) (KnD.len t)
theorem KnD.snoc {K : PySem.W.Frag} {H : Hp} {a : Str} {gs : List Int} {v : V} (h : Td K H v (gsD gs)) : ∀ {kvs : List (Key × V)} {kn : Kn}, KnD K H kvs kn → KnD K H (kvs ++ [(.inr a, v)]) (kn ++ [(a, gs)])
  | _, _, .nil => .cons h .nil
  | _, _, .cons g t => .cons g (KnD.snoc h t)
theorem KnD.get {K : PySem.W.Frag} {H : Hp} {a : Str} {gs : List Int} : ∀ {kvs : List (Key × V)} {kn : Kn}, KnD K H kvs kn → glk kn a = some gs → ∃ v, valV kvs (.inr a) = some v ∧ Td K H v (gsD gs)
  | _, _, .nil, h => by cases h
  | _, _, .cons (a := b) (gs := g) (kvs := kvs) (kn := kn) h t, e => by
    have e : (if a = b then some g else glk kn a) = some gs := e
    by_cases n : a = b
    · rw [if_pos n] at e
      cases e
      exact ⟨_, valV_pos (by rw [n]), h⟩
    · rw [if_neg n] at e
      obtain ⟨v, h1, h2⟩ := KnD.get t e
      exact ⟨v, by rw [valV_neg (k_ne fun z => n z.symm)]; exact h1, h2⟩
theorem KnD.has {K : PySem.W.Frag} {H : Hp} {kvs : List (Key × V)} {kn : Kn} (h : KnD K H kvs kn) (a : Str) : (valV kvs (.inr a)).isSome = decide (a ∈ kn.map (·.1)) := has_key h.keys a
theorem KnD.no {K : PySem.W.Frag} {H : Hp} {kvs : List (Key × V)} {kn : Kn} (h : KnD K H kvs kn) {a : Str} (e : glk kn a = none) : valV kvs (.inr a) = none := by
  have := h.has a
  rw [decide_eq_false (glk_none.mp e)] at this
  cases q : valV kvs (.inr a) with
  | none => rfl
  | some v =>
    rw [q] at this
    cases this
/-! forms, lines -/
abbrev Fac := Int × Int
inductive Frm where
  | one (gs : List Int)
  | road (k : Str) (g h : Int)
  | prod (a b : Str)
  | close (g : Int) (a : Str)
  | turn (g h : Int) (a : Str)
  | add (fs : List (Fac × Str))
structure Ln where
  nm : Str
  fm : Frm
def Frm.word : Frm → Str
  | .one _ => "one"
  | .road _ _ _ => "road"
  | .prod _ _ => "*"
  | .close _ _ => "close"
  | .turn _ _ _ => "turn"
  | .add _ => "add"
def facD (f : Fac) : PyData := .tuple [.int f.1, .int f.2]
def Frm.partsL : Frm → List PyData
  | .one gs => gs.map PyData.int
  | .road k g h => [.str k, .int g, .int h]
  | .prod a b => [.str a, .str b]
  | .close g a => [.int g, .str a]
  | .turn g h a => [.int g, .int h, .str a]
  | .add fs => fs.map fun f => .tuple [facD f.1, .str f.2]
def Ln.data (l : Ln) : PyData := .tuple [.str l.nm, .str l.fm.word, .tuple l.fm.partsL]
def swp (g h x : Int) : Int := if x = g then h else if x = h then g else x
def Frm.gates (kn : Kn) : Frm → List Int
  | .one gs => gs
  | .road _ g h => asc4 fun x => decide (x ∈ [g, h])
  | .prod a b => asc4 fun x => decide (x ∈ (glk kn a).getD [] ++ (glk kn b).getD [])
  | .close g a => ((glk kn a).getD []).filter fun x => !decide (x = g)
  | .turn g h a => asc4 fun x => decide (x ∈ ((glk kn a).getD []).map (swp g h))
  | .add fs => (glk kn ((fs.map (·.2)).headD Str.empty)).getD []
def knOf : Kn → List Ln → Kn
  | kn, [] => kn
  | kn, l :: r => knOf (kn ++ [(l.nm, l.fm.gates kn)]) r
/-- the factors that are drawn -/
def allFacs : List Fac := ([1, -1, 2, -2, 3, 0, 7, -5] : List Int).flatMap fun t => ([1, 1, 1, 1, 1, 2, 3, 4] : List Int).map fun b => (t / (Nat.gcd t.natAbs b.natAbs : Int), b / (Nat.gcd t.natAbs b.natAbs : Int))
/-- a factor in least terms -/
structure FacOk (f : Fac) : Prop where
  low : 1 ≤ f.2
  gcd : Nat.gcd f.1.natAbs f.2.natAbs = 1
  mem : f ∈ allFacs
  sml : f.1.natAbs ≤ 1000 ∧ f.2 ≤ 1000
end OG
set_option Elab.async false
set_option linter.all false
set_option maxRecDepth 100000
set_option maxHeartbeats 4000000
namespace OGX
open PySem PySem.Spec PyProof.Rows L2
section
variable {prog : Program} {w : World} {A : Around} {E : Value → Shared → Prop} {s : Shared} {K : PySem.W.Frag} {x y C f : Addr} {ox oy : Obj} {od od' : Option Obj}
theorem ne_checked {Q : Unit → Shared → Prop} (KX : K.In s.heap) (J : PySem.W.InstAt s.heap x ox C od) (hob : PySem.W.subIn K (.ref C) (.type "object") = some true) (q : Q () s) :
    wpAny (model prog w) A (checkBuiltinCall "object.__ne__" ⟨[.ref x, .ref y], []⟩) Q E s := by
  simp only [checkBuiltinCall, F.cmpKind_ne, F.cmpSplit_ne]
  refine wpAny_bind ?_
  unfold isInstance
  refine wpAny_bind (J.type.here ?_)
  refine (PySem.W.looks_subIn KX hob).here ?_
  have ha := F.cmpArgs_ne (.ref x) (.ref y)
  rw [if_neg (show ¬ (!true) = true from fun z => by cases z)]
  unfold argsOk at ha
  split at ha
  · rename_i sig e
    rw [e]
    show wpAny _ _ (Bind.checkArgs "object.__ne__" sig ⟨[.ref x, .ref y], []⟩) Q E s
    rw [show Bind.checkArgs "object.__ne__" sig ⟨[.ref x, .ref y], []⟩ = pure () from ha]
    exact wpAny_pure q
  · rename_i e
    split
    · rename_i sig e2
      first
        | exact absurd e2 (by intro z; simp_all)
        | (rw [e2] at e; cases e)
    · exact wpAny_pure q
theorem ne_builtin {Q : Value → Shared → Prop} (KX : K.In s.heap) (J : PySem.W.InstAt s.heap x ox C od) (hob : PySem.W.subIn K (.ref C) (.type "object") = some true) (heq : PySem.W.findIn K (.ref C) "__eq__" = some (some (.ref f))) (hf : PySem.W.isFn K (.ref f) = true) (hu : A.units + 1 < cLine)
    (h : wpAny (model prog w) A.in1 (call (.ref f) [.ref x, .ref y]) (fun v s' => ∃ b, v = .bool b ∧ Q (.bool (!b)) s') E s) :
    wpAny (model prog w) A (call (.builtin "object.__ne__") [.ref x, .ref y]) Q E s := by
  refine wpAny_call (codeAny_call_builtin F.cmp_object.ne.plain F.cmpEntry_ne (ne_checked KX J hob ?_))
  unfold Builtin.«object.__ne__»
  repeat (first
    | with_reducible refine wpAny_cRoomFor hu ?_
    | (refine wpAny_bind (m := callSpecialIfBound? (.ref x) (Str.ofString "__eq__") [.ref y]) (PySem.W.ifBound_K KX J heq hf (wpAny_mono h (fun v s' z => ?_) fun _ _ e => e)))
    | wp_step)
  obtain ⟨b, rfl, q⟩ := z
  dsimp only
  exact wpAny_bind (wpAny_truthy_bool (wpAny_pure q))
theorem ne_rich {Q : Value → Shared → Prop} (KX : K.In s.heap) (J : PySem.W.InstAt s.heap x ox C od) (J2 : PySem.W.InstAt s.heap y oy C od') (hob : PySem.W.subIn K (.ref C) (.type "object") = some true) (hne : PySem.W.findIn K (.ref C) "__ne__" = some (some (.builtin "object.__ne__")))
    (heq : PySem.W.findIn K (.ref C) "__eq__" = some (some (.ref f))) (hf : PySem.W.isFn K (.ref f) = true) (hu : A.units + 2 < cLine)
    (h : wpAny (model prog w) A.in1 (call (.ref f) [.ref x, .ref y]) (fun v s' => ∃ b, v = .bool b ∧ Q (.bool (!b)) s') E s) :
    wpAny (model prog w) A (richCompare .NotEq (.ref x) (.ref y)) Q E s := by
  have fin : wpAny (model prog w) A (tryCompare (.ref x) (Str.ofString "__ne__") (.ref y)) (fun r s' => ∃ v, r = some v ∧ Q v s') E s := by
    unfold tryCompare
    refine wpAny_bind ?_
    simp only [callSpecialIfBound?, bindSpecialIfBound?]
    refine wpAny_holding (wpAny_bind (wpAny_bind (wpAny_bind (J.type.here ((PySem.W.looks_findIn KX hne).here ?_)))))
    simp only [F.cmp_object.ne.bind]
    have fin : wpAny (model prog w) A (call (.builtin "object.__ne__") ([.ref x] ++ [.ref y])) (fun v s' => ∃ b, v = .bool b ∧ Q (.bool b) s') E s :=
      ne_builtin KX J hob heq hf (by omega) (wpAny_mono h (fun v s' z => by
        obtain ⟨b, rfl, q⟩ := z
        exact ⟨b, rfl, !b, rfl, q⟩) fun _ _ z => z)
    have go : wpAny (model prog w) A (match (some (Value.builtin "object.__ne__", [Value.ref x]) : Option (Value × List Value)) with
        | some (g, first) => do
          let v ← call g (first ++ [Value.ref y])
          pure (some v)
        | _ => pure none) (fun a s' => wpAny (model prog w) A (match a with
            | some Value.notImplemented => pure none
            | none => pure none
            | some v => pure (some v)) (fun r s' => ∃ v, r = some v ∧ Q v s') E s') E s := by
      dsimp only
      refine wpAny_bind (wpAny_mono fin (fun v s' z => ?_) fun _ _ z => z)
      obtain ⟨b, rfl, q⟩ := z
      exact wpAny_pure (wpAny_pure ⟨_, rfl, q⟩)
    refine wpAny_bind (wpAny_askSetting (wpAny_ite ?_))
    split
    · exact wpAny_bind (wpAny_pure (wpAny_pure go))
    · exact wpAny_tryCatch (wpAny_bind (wpAny_pure (wpAny_pure go)))
  unfold richCompare
  simp only [oneThing_ref]
  refine wpAny_holding (wpAny_bind (wpAny_cRoomFor (by omega) ?_))
  rw [cmpInfo_NotEq]
  dsimp only
  refine wpAny_bind (J.type.here (wpAny_bind (J2.type.here ?_)))
  rw [show (Value.ref C != Value.ref C) = false from by simp]
  simp only [Bool.false_eq_true, if_false]
  refine wpAny_bind (wpAny_pure ?_)
  simp only [Bool.false_eq_true, if_false]
  refine wpAny_bind (wpAny_mono fin (fun r s' z => ?_) fun _ _ z => z)
  obtain ⟨v, rfl, q⟩ := z
  exact wpAny_pure q
end
section
variable {X : Cx} {CX : CXT} {k : Nat} {f C : Addr} {fd : FuncData} {ps : List Str} {sp : Sp} {E : XK}
/-- o != another one, by the own __eq__ -/
def rNeO (C : Addr) (sp : Sp) (E : XK) : R2 := fun x y H Q => ∃ (a dx : Addr) (fs : List (Str × V)) (b dy : Addr) (gs : List (Str × V)), x = .ref a ∧ y = .ref b ∧ H a = some (.ins C dx fs) ∧ H b = some (.ins C dy gs) ∧
  sp [.ref a, .ref b] H (fun v H' => ∃ r, v = .bl r ∧ Q (.bl (!r)) H') E
theorem op_neOwn (F : FnOk X.prog X.w X.K X.mg X.base CX k f fd ps sp) (hr : Room (k + 1) X.A) (hs : PySem.W.findIn X.K (.ref C) "__eq__" = some (some (.ref f))) (hf : PySem.W.isFn X.K (.ref f) = true) (hn : PySem.W.findIn X.K (.ref C) "__ne__" = some (some (.builtin "object.__ne__"))) (ho : PySem.W.subIn X.K (.ref C) (.type "object") = some true)
    (hb : Binds X.K fd ps []) (hx : Passes CX X E) : OpR X (compareOp .NotEq) (rNeO C sp E) := by
  intro pins s σ H x y v u Q I rx ry h
  obtain ⟨a, dx, fs, b, dy, gs, rfl, rfl, ha, hb0, q⟩ := h
  cases rx
  cases ry
  obtain ⟨mA, J, _⟩ := ins_get I.hok ha
  obtain ⟨od, J, _⟩ := J.look
  obtain ⟨mB, J', _⟩ := ins_get I.hok hb0
  obtain ⟨od', J', _⟩ := J'.look
  refine ne_rich I.kIn J J' ho hn hs hf (by have := hr.units; omega) (wpAny_mono (run_own (A := X.A.in1) F hr.in1 rfl hb hx I (.cons (show L2.RelV (.ref a) (Value.ref a) from rfl) (.cons (show L2.RelV (.ref b) (Value.ref b) from rfl) .nil)) q) (fun v s' z => ?_) fun _ _ z => z)
  obtain ⟨y, H', I', ry, r, rfl, q'⟩ := z
  cases ry
  exact ⟨r, rfl, .bl (!r), H', I', rfl, q'⟩
end
end OGX
set_option Elab.async false
set_option linter.all false
set_option maxRecDepth 100000
set_option maxHeartbeats 4000000
namespace OGX
open PySem PySem.Spec PyProof.Rows L2
/-- a promise where no repr is under way -/
structure FnG (P : Program) (w : World) (K : PySem.W.Frag) (mg : Str → Option Value) (base : Heap) (k : Nat) (f : Addr) (fd : FuncData) (ps : List Str) (sp : Sp) : Prop where
  len : ∀ vs H Q E, sp vs H Q E → vs.length = ps.length
  run : ∀ (A : Around) (outer : List Env) (s : Shared) (H : Hp) (args : Args) (us : List Value) (vs : List V) (Q : VK) (E : XK), A.guards = some [] → Room k A → Env0 P w K mg base A outer s H → BindsTo s fd args (ps.zip us) → Vals vs us → sp vs H Q E →
    codeAny (model P w) A (.call (.ref f) args) (CR CX0 outer P w H s Q E) s
theorem FnG.mono {P : Program} {w : World} {K : PySem.W.Frag} {mg : Str → Option Value} {base : Heap} {j k : Nat} {f : Addr} {fd : FuncData} {ps : List Str} {sp : Sp} (F : FnG P w K mg base j f fd ps sp) (h : j ≤ k) : FnG P w K mg base k f fd ps sp :=
  ⟨F.len, fun A outer s H args us vs Q E hg hr => F.run A outer s H args us vs Q E hg (hr.mono h)⟩
section
variable {P : Program} {w : World} {K : PySem.W.Frag} {mg : Str → Option Value} {base : Heap}
theorem okG {x qual : Str} {st : Stmt} {f : Addr} {fd : FuncData} {N ps : List Str} {k : Nat} {sp : Sp} (F : Fun K x qual st f fd) (S : FnScope N ps (defScope st)) (len : ∀ vs H Q E, sp vs H Q E → vs.length = ps.length)
    (body : ∀ (cdv : Value) (A : Around) (outer : List Env) (s : Shared) (H : Hp) (vs : List V) (Q : VK) (E : XK), A.guards = some [] → Room k (A.deeper (envOfC qual (defScope st) s.heap.objs.size f cdv)) → sp vs H Q E →
      ∃ t, PSs (cxOf CX0 P w K mg base N qual (defScope st) f cdv A outer s H E).nox (defBody st) t ∧ t { nx := fun _ H' => Q .non H', rt := Q } (start N vs) H) : FnG P w K mg base (k + 1) f fd ps sp := by
  obtain ⟨oc, od, kV, doc, pm, an, cdv, ct, osl, rfl, lk, hcd⟩ := F.ex
  refine ⟨len, fun A outer s H args us vs Q E hg hr e0 hb r q => ?_⟩
  have toNow : ∀ b o, base.get? b = some o → s.heap.get? b = some o := fun b o e => (e0.bs b o e).1
  have KX := e0.mod.kin.keeps toNow
  have lim := e0.mod.nolimit.keeps toNow
  have kinds : ∀ y ∈ ps.zip us, (defScope st).names.lookup y.1 = some .local ∨ ((defScope st).names.lookup y.1 = some .cell ∧ ((cellsFrom (s.heap.objs.size + 1) (defScope st).names []).lookup y.1).isSome = true) := by
    rintro ⟨n, v⟩ hy
    refine (S.par n (List.of_mem_zip hy).1).imp id fun c => ⟨c, PySem.W.cellsFrom_some _ _ _ (.inl c)⟩
  refine codeAny_call_function hr.depth (KX _ _ lk) rfl S.co S.gen rfl (PySem.W.codeRec_of KX hcd) (hb _ _ _ _ (wpAny_newFunctionEnv_cells S.kind kinds fun env he s1 x => ?_))
  cases he
  refine ⟨lim.keeps x.toInCall.keep, codeAny_func ?_⟩
  obtain ⟨t, ht, hq⟩ := body cdv A outer s H vs Q E hg (hr.deeper _) q
  refine wpAny_mono (ht.nox.run [] s1 (start N vs) H _ (inv_start S hr.hd e0 (len _ _ _ _ q) r x) hq) (fun fl s' z => ?_) fun _ _ z => z
  rcases fl with _ | _ | _ | u
  · obtain ⟨_, H', J, q'⟩ := z
    exact ⟨V.non, H', J.os, J.bare, J.base, J.hok, rfl, q'⟩
  · exact z.elim fun _ z => z.elim fun _ z => z.2.elim
  · exact z.elim fun _ z => z.elim fun _ z => z.2.elim
  · obtain ⟨v, _, H', J, rv, q'⟩ := z
    exact ⟨v, H', J.os, J.bare, J.base, J.hok, rv, q'⟩
end
section
variable {X : Cx} {k : Nat} {f : Addr} {fd : FuncData} {ps : List Str} {sp : Sp} {x : Str} {p pos : Pos} {e : Expr} {es : List Expr} {t : TA}
theorem pe_callG (F : FnG X.prog X.w X.K X.mg X.base k f fd ps sp) (hu : X.A.guards = some []) (hr : Room k X.A) (hg : Gl X x) (hm : X.mg x = some (.ref f)) (hk : PySem.W.keepIn X.K (.ref f) = true) (hb : Binds X.K fd ps [])
    (ha : PA X (e :: es) t) (hdb : (x == ("__debug__" : Str)) = false := by decide) (he : starEach (e :: es) X.env = (false, eval e X.env) :: starEach es X.env := by rfl) (hpl : (backTo pos (starEach es X.env)).any (·.1) = false := by rfl) :
    PE X (.Call (.Name x p) (e :: es) [] pos) (tCall sp [] E0 t) := by
  refine ⟨fun pins s σ H Q I h => wpAny_Call_Name_kw (ld_glob I hg hm (PySem.W.callWith_K (h₀ := X.base) I.ok.mod.kin hk (thn (ha.run pos pins s σ H _ I h) fun us s1 ⟨vs, H1, I1, r, q⟩ => ⟨I1.kIn, ?_⟩) he hpl) hdb)⟩
  have q : sp vs H1 Q E0 := by
    have q : sp (vs ++ []) H1 Q E0 := q
    rw [List.append_nil] at q
    exact q
  have hl : us.length = ps.length := by rw [← r.length]; exact F.len _ _ _ _ q
  have b := hb s1 us I1.kIn (by rw [List.append_nil]; exact hl)
  rw [List.append_nil] at b
  refine wpAny_call (codeAny_mono (F.run X.A X.stack s1 H1 ⟨us, []⟩ us vs Q E0 hu hr I1.env0 b r q) fun z s' hq => ?_)
  rcases z with e | fl
  · exact hq.elim
  · rcases fl with _ | _ | _ | u
    all_goals first | exact I1.after hq | exact hq.elim
end
/-- the law's call at the heap behind the top: the script's list alone is tracked -/
theorem law_callG {P : Program} {w : World} {K : PySem.W.Frag} {mg mb : Str → Option Value} {k : Nat} {fa a : Addr} {fd : FuncData} {x : Str} {sp : Sp} {s₁ : Shared} {vs : List Value} {ns : List Int}
    (KX : K.In s₁.heap) (G : s₁.heap.Ns mainGlobals mg) (B : s₁.heap.Ns builtinsNs mb) (bs : ∀ x : Str, x ≠ "__name__" → mb x = bootBuiltins x) (lim : s₁.heap.NoLimit) (gens : s₁.gens = #[])
    (ha : s₁.heap.get? a = some { cls := .type "list", data := .seq vs.toArray }) (hi : IntsAre vs ns) (hl : ns.length ≤ sizeLine) (hr : Room k callerA)
    (F : ∀ base : Heap, K.In base → base.Ns mainGlobals mg → FnG P w K mg base k fa fd [x] sp) (hb : ∀ (s : Shared) (u : Value), BindsTo s fd ⟨[u], []⟩ [(x, u)])
    (hsp : ∀ H : Hp, SqL K H a (ns.map V.int) → sp [.ref a] H (fun v _ => v = .bl true) E0) :
    codeAny (model P w) callerA (.call (.ref fa) ⟨[.ref a], []⟩) (fun r s' => r = .ok (.ret (.bool true)) ∧ OldK s₁.heap s'.heap ∧ s'.os = s₁.os ∧ AllBare s'.gens) s₁ := by
  have rv := vals_ints hi
  have go : ∀ H : Hp, (∀ b u, H b = some u → b = a ∧ K.lookup a = none ∧ u = .frz { cls := .type "list", data := .seq vs.toArray } (.lst (ns.map V.int))) → SqL K H a (ns.map V.int) →
      codeAny (model P w) callerA (.call (.ref fa) ⟨[.ref a], []⟩) (fun r s' => r = .ok (.ret (.bool true)) ∧ OldK s₁.heap s'.heap ∧ s'.os = s₁.os ∧ AllBare s'.gens) s₁ := by
    intro H hH hS
    have out : ∀ {b : Addr} {o : Obj}, s₁.heap.get? b = some o → (b = a → False) → (hidT s₁.heap H).get? b = some o := fun {b o} e n => hidT_get e (by
      cases q : H b with
      | none => rfl
      | some u => exact (n (hH b u q).1).elim)
    have ns1 : ∀ {b : Addr} {m : Str → Option Value}, s₁.heap.Ns b m → (hidT s₁.heap H).Ns b m := by
      rintro b m ⟨o, es, ep, e, d, r⟩
      refine ⟨o, es, ep, out e (fun z => ?_), d, r⟩
      rw [z, ha] at e
      cases e
      cases d
    have K1 : K.In (hidT s₁.heap H) := fun b o e => hidT_get (KX b o e) (by
      cases q : H b with
      | none => rfl
      | some u =>
        obtain ⟨z, hk, _⟩ := hH b u q
        rw [z, hk] at e
        cases e)
    obtain ⟨mc, l1, l2⟩ := lim
    have e0 : Env0 P w K mg (hidT s₁.heap H) callerA [] s₁ H := {
      frames := rfl
      mod := ⟨K1, ns1 G, ⟨mb, ns1 B, bs⟩, ⟨mc, ns1 l1, l2⟩⟩
      bs := fun b o e => of_hidT e
      bsz := Nat.le_of_eq (hidT_size _ _)
      funs := trivial
      frf := fun b z => by cases z
      hok := fun b u q => by
        obtain ⟨z, _, rfl⟩ := hH b u q
        rw [z]
        exact ⟨ha, by rw [List.length_map]; exact hl, vs, _, rv, ha⟩
      bare := .of_eq gens }
    refine codeAny_mono ((F _ K1 (ns1 G)).run callerA [] s₁ H ⟨[.ref a], []⟩ [.ref a] [.ref a] _ _ rfl hr e0 (hb s₁ (.ref a)) (.cons rfl .nil) (hsp H hS)) fun r s' z => ?_
    rcases r with e | fl
    · exact z.elim
    rcases fl with _ | _ | _ | u
    case next => exact z.elim
    case brk => exact z.elim
    case cont => exact z.elim
    obtain ⟨v, H', os, bare, un, ok', rv', q⟩ := z
    cases (show v = .bl true from q)
    cases (show u = Value.bool true from rv')
    refine ⟨rfl, OldK.of_keep fun b o e => ?_, os, bare⟩
    cases q : H b with
    | none => exact un.keep b o e q (fun z => by cases z) (fun z => by cases z)
    | some t =>
      obtain ⟨rfl, _, rfl⟩ := hH b t q
      obtain ⟨g, _⟩ := ok' b _ (un.frzs b _ _ q)
      rw [ha] at e
      cases e
      exact g
  cases hk : K.lookup a with
  | some o =>
    have e := KX a o hk
    rw [ha] at e
    cases e
    exact go (fun _ => none) (fun b u z => by cases z) (.inr ⟨_, vs.toArray, _, hk, rfl, rfl, rfl, by rw [List.size_toArray, hi.length]; exact hl, by simpa using rv⟩)
  | none =>
    refine go (fun b => if b = a then some (.frz { cls := .type "list", data := .seq vs.toArray } (.lst (ns.map V.int))) else none) (fun b u z => ?_) (.inl (.inr ⟨{ cls := .type "list", data := .seq vs.toArray }, if_pos rfl⟩))
    by_cases h : b = a
    · exact ⟨h, hk, (Option.some.inj ((if_pos h).symm.trans z)).symm⟩
    · cases (if_neg h).symm.trans z
/-- the end -/
theorem walkG {l : PySem.W.OpenLaw} {n k : Nat} {q : Program} {loose : List Str} {XP : (Str → Option Value) → Heap → Prop} {YP : World → Heap → Prop} {d : DefRec} {K : Params → PySem.W.Frag} {x : Str}
    (h1 : l.most = some n) (h2 : n ≤ sizeLine) (h3 : d.params.defaults = []) (h4 : Room k callerA) (h5 : ∀ (w : World) (h : Heap), YP w h → (K w.params).In h)
    (h6 : ∀ (w : World) (mg : Str → Option Value) (fa : Addr) (h : Heap), YP w h → XP mg h → (K w.params).In h → h.Ns mainGlobals mg → mg d.name = some (.ref fa) → ∃ (fd : FuncData) (sp : Sp), (∀ (s : Shared) (u : Value), BindsTo s fd ⟨[u], []⟩ [(x, u)]) ∧
      (∀ (H : Hp) (a : Addr) (ns : List Int), ns.length ≤ n → (∀ z ∈ ns, Builtin.Int.intBits z ≤ 1048576) → SqL (K w.params) H a (ns.map V.int) → sp [.ref a] H (fun v _ => v = .bl true) E0) ∧
      ∀ base : Heap, (K w.params).In base → base.Ns mainGlobals mg → FnG l.prog w (K w.params) mg base k fa fd [x] sp) :
    PySem.W.WalkO q loose XP YP l.row.toRowW d [] (fun f vs => PySem.call f vs) := by
  refine Att.attach_callB h1 h3 fun w a0 a1 mg mb fa o pm cd doc a vs ns G Y b1 b2 b3 b4 b5 b6 b7 b8 b9 => ?_
  have X := h5 w _ Y
  obtain ⟨fd, sp, c4, c5, c6⟩ := h6 w mg fa _ Y G.X X G.T.g b4
  exact law_callG X G.T.g G.T.b G.T.builtins G.T.nolimit b9 b5 b6 (Nat.le_trans b7 h2) h4 c6 c4 fun H hS => c5 H a ns b7 b8 hS
end OGX
set_option Elab.async false
set_option linter.all false
set_option maxRecDepth 100000
set_option maxHeartbeats 4000000
namespace OG
open PySem PySem.Spec PyProof.Rows L2
section
variable {X : Cx} (K : PySem.W.Frag)
theorem pe_fldK {e : Expr} {f : Str} {pos : Pos} {ta : TE} (he : PE X e ta) (hb : attributeBase e f X.env (eval e X.env) = eval e X.env) (hK : X.K = K := by rfl) : PE X (.Attribute e f pos) (tFld K ta f) := hK ▸ pe_fld he hb
theorem pa_starK {e : Expr} {es : List Expr} {te : TE} {t : TA} {p : Pos} (he : PE X e te) (hr : PA X es t) (hK : X.K = K := by rfl) (hs : starEach (.Starred e p :: es) X.env = (true, eval e X.env) :: starEach es X.env := by rfl) : PA X (.Starred e p :: es) (StX.tStar K te t) := hK ▸ StX.pa_star he hr hs
theorem op_catAK (hK : X.K = K := by rfl) : OpR X (binaryOp .Add) (rCatA K) := hK ▸ op_catA
end
end OG
set_option Elab.async false
set_option linter.all false
set_option maxRecDepth 100000
set_option maxHeartbeats 4000000
namespace OG
open PySem PySem.Spec PyProof.Rows L2
/-! what is not reached -/
theorem pe_dead {X : Cx} {e : Expr} : PE X e (fun _ _ _ => False) := ⟨fun _ _ _ _ _ _ h => h.elim⟩
theorem pt_dead {X : Cx} {e : Expr} : PT X e (fun _ _ _ => False) := ⟨fun _ _ _ _ _ _ h => h.elim⟩
theorem pw_dead {X : Cx} {e : Expr} : PW X e (fun _ _ _ => False) := ⟨fun _ _ _ _ _ _ _ h => h.elim⟩
theorem pss_dead {X : Cx} {b : List Stmt} : PSs X b (fun _ _ _ => False) := ⟨fun _ _ _ _ _ _ h => h.elim⟩
theorem ps_dead {X : Cx} {b : Stmt} : PS X b (fun _ _ _ => False) := ⟨fun _ _ _ _ _ _ h => h.elim⟩
end OG
set_option Elab.async false
set_option linter.all false
set_option maxRecDepth 100000
set_option maxHeartbeats 8000000
namespace OG
open PySem PySem.Spec PyProof.Rows L2
/-- a slot's number -/
def vN : Option (Option V) → Nat
  | some (some (.int y)) => y.toNat
  | _ => 0
def redF (t b : Int) : Fac := (t / (Nat.gcd t.natAbs b.natAbs : Int), b / (Nat.gcd t.natAbs b.natAbs : Int))
theorem redF_ok {t b : Int} (h1 : 1 ≤ b) (h2 : b ≤ 1000) (h3 : t.natAbs ≤ 1000) (m : redF t b ∈ allFacs) : FacOk (redF t b) := by
  obtain ⟨g, hg⟩ : ∃ g, g = Nat.gcd t.natAbs b.natAbs := ⟨_, rfl⟩
  have gp : 0 < g := by
    rw [hg]
    exact Nat.gcd_pos_of_pos_right _ (by omega)
  obtain ⟨b', rfl⟩ : ∃ b' : Nat, b = b' := ⟨b.toNat, by omega⟩
  have d1 : g ∣ t.natAbs := by rw [hg]; exact Nat.gcd_dvd_left _ _
  have d2 : g ∣ b' := by rw [hg]; exact Nat.gcd_dvd_right _ _
  obtain ⟨u, hu⟩ := d1
  obtain ⟨v, hv⟩ := d2
  have ev : ((b' : Int) / (g : Int)) = (v : Int) := by
    rw [hv, Int.natCast_mul, Int.mul_ediv_cancel_left _ (by omega)]
  have et : (t / (g : Int)).natAbs = u := by
    rcases Int.natAbs_eq t with e | e
    · rw [e, hu, Int.natCast_mul, Int.mul_ediv_cancel_left _ (by omega), Int.natAbs_natCast]
    · rw [e, hu, Int.natCast_mul, ← Int.mul_neg, Int.mul_ediv_cancel_left _ (by omega), Int.natAbs_neg, Int.natAbs_natCast]
  have gc : Nat.gcd u v = 1 := by
    have e : Nat.gcd (g * u) (g * v) = g * Nat.gcd u v := Nat.gcd_mul_left _ _ _
    rw [← hu, ← hv, show Nat.gcd t.natAbs b' = g from hg.symm] at e
    exact (Nat.eq_of_mul_eq_mul_left gp (by rw [Nat.mul_one]; exact e)).symm
  have ul : u ≤ t.natAbs := by
    rw [hu]
    exact Nat.le_mul_of_pos_left _ gp
  have vl : v ≤ b' := by
    rw [hv]
    exact Nat.le_mul_of_pos_left _ gp
  have vp : 0 < v := by
    rcases Nat.eq_zero_or_pos v with e | e
    · rw [e, Nat.mul_zero] at hv
      omega
    · exact e
  unfold redF at m ⊢
  rw [Int.natAbs_natCast, show Nat.gcd t.natAbs b' = g from hg.symm] at m ⊢
  refine ⟨?_, ?_, m, ?_, ?_⟩
  · show 1 ≤ (b' : Int) / (g : Int)
    rw [ev]
    omega
  · show Nat.gcd (t / (g : Int)).natAbs ((b' : Int) / (g : Int)).natAbs = 1
    rw [et, ev, Int.natAbs_natCast]
    exact gc
  · show (t / (g : Int)).natAbs ≤ 1000
    rw [et]
    omega
  · show (b' : Int) / (g : Int) ≤ 1000
    rw [ev]
    omega
section
variable {P : Program} {w : World} {K : PySem.W.Frag} {mg : Str → Option Value} {base : Heap}
def spOfT (K : PySem.W.Frag) : Sp := fun vs H Q _ => ∃ (p l : Addr) (xs : List V) (k : Nat), vs = [.ref p, .ref l] ∧ Pot (k + 1) H p ∧ SqT K H l xs ∧ 0 < xs.length ∧ xs.length < 100000 ∧
  ∀ (i : Nat) (x : V) (H' : Hp), xs[i]? = some x → Dr p k H H' → Q x H'
theorem ok_l_ofT (T : Txt K mg) : FnOk P w K mg base CX0 2 T.f_l_of T.fd_l_of ["pot", "some"] (spOfT K) := by
  refine T.F_l_of.ok sc_l_of (fun vs H Q E h => ?_) (fun cdv A outer s H vs Q E hr h => ?_)
  · obtain ⟨p, l, xs, k, rfl, _⟩ := h
    rfl
  · obtain ⟨p, l, xs, k, rfl, hP, hL, l0, l1, q⟩ := h
    refine ⟨_, (pss_one (ps_ret (pe_ix ix_tup (pv 1) (pe_call (ok_l_take T) (hr.mono (by decide)) (by rfl) T.g_l_take T.F_l_take.kp T.b_l_take .nil pass0 (pa_cons (pv 0) (pa_cons (pe_callB call_len_seq (by rfl) T.n_len PySem.boot_len (pa_cons (pv 1) pa_nil)) pa_nil))) (fun _ _ => rfl)))), ?_⟩
    refine ⟨.ref l, rfl, .ref p, rfl, .ref l, rfl, l, _, rfl, .inr hL, ?_⟩
    refine ⟨p, xs.length, k, rfl, hP, by omega, by omega, fun r H' r0 r1 d => ?_⟩
    have hr1 : r.toNat < xs.length := by omega
    have hx : xs[r.toNat]? = some (xs[r.toNat]) := List.getElem?_eq_getElem hr1
    have tk := d.1.tk (by
      obtain ⟨a, b, c, h, _⟩ := hP
      exact ⟨_, h⟩)
    refine ⟨l, xs, (r.toNat : Int), _, rfl, congrArg V.int (by omega), SqT.tk hL tk, atI_nat hx, q _ _ _ hx d⟩
theorem ok_l_script_some (T : Txt K mg) : FnOk P w K mg base CX0 2 T.f_l_script_some T.fd_l_script_some ["pot", "pool", "many"] (spSome K) := by
  refine T.F_l_script_some.ok sc_l_script_some (fun vs H Q E h => ?_) (fun cdv A outer s H vs Q E hr h => ?_)
  · obtain ⟨p, l, xs, m, k, rfl, _⟩ := h
    rfl
  · obtain ⟨p, l, xs, m, k, rfl, hP, hL, nlp, hm, l1, q⟩ := h
    refine ⟨_, (pss_cons (ps_par (i := 3) (j := 4) (by rfl) sc_l_script_some.nd rfl rfl (by decide) rfl rfl (pa_cons (pe_callTy call_list_of (by rfl) T.n_list (by decide +kernel) (pa_cons (pv 1) pa_nil)) (pa_cons (pe_lst pa_nil) pa_nil)) (by rfl))
  (pss_cons (ps_for PassesOwn.never rfl (pi_range1 (by rfl) T.n_range (pa_cons (pv 2) pa_nil)) (pg_name (i := 5) sc_l_script_some.nd rfl (Or.inl rfl)) (pss_one (ps_expr (pe_bm PySem.F.plainAttrs_list PySem.F.slot_list_append PySem.F.type_list_append mt_append (pv 4) (pa_cons (pe_bm PySem.F.plainAttrs_list PySem.F.slot_list_pop PySem.F.type_list_pop mt_popAt (pv 3) (pa_cons (pe_call (ok_l_take T) (hr.mono (by decide)) (by rfl) T.g_l_take T.F_l_take.kp T.b_l_take .nil pass0 (pa_cons (pv 0) (pa_cons (pe_callB call_len_seq (by rfl) T.n_len PySem.boot_len (pa_cons (pv 3) pa_nil)) pa_nil))) pa_nil)) pa_nil)))))
  (pss_one (ps_ret (pv 4))))), ?_⟩
    refine ⟨.ref l, rfl, l, xs, rfl, .inl hL, fun e he => ?_⟩
    refine ⟨Nat.zero_le _, fun o ho => ?_⟩
    refine ⟨_, _, rfl, ?_⟩
    have ho' : H o = none := by
      cases z : H o with
      | none => rfl
      | some u =>
        rw [same_new he _ _ z] at ho
        cases ho
    have neo : o ≠ e := fun z => by
      rw [z, upd_same] at ho
      cases ho
    have nep : e ≠ p := hP.ne he
    have nop : o ≠ p := hP.ne ho'
    refine ⟨.int m, rfl, m, rfl, (by omega), (by omega), ?_⟩
    rw [show ((m : Int)).toNat = m from rfl]
    refine for_range (n := m) (fun i σ H' => ∃ (v : Option V) (ys ls : List V), σ = [some (.ref p), some (.ref l), some (.int m), some (.ref e), some (.ref o), v] ∧ i ≤ m ∧ Dr p (k + (m - i)) H H' ∧ H' e = some (.lst ls) ∧ H' o = some (.lst ys) ∧ (ys ++ ls).Perm xs ∧ ys.length = i)
      ⟨none, [], xs, rfl, Nat.zero_le _, ((Dr.start hP (by omega)).new he).new ho, by rw [upd_ne neo.symm, upd_same], upd_same, List.Perm.refl _, rfl⟩ ?_ ?_
    · rintro i σ H' hi ⟨v, ys, ls, rfl, _, d, h1, h2, pm, hl⟩
      have len := pm.length_eq
      rw [List.length_append] at len
      refine ⟨.ref o, rfl, .inl ⟨rfl, _, SqL.of h2⟩, .ref e, rfl, .inl ⟨rfl, _, SqL.of h1⟩, .ref p, rfl, .ref e, rfl, e, _, rfl, .inl (SqL.of h1), ?_⟩
      refine ⟨p, ls.length, k + (m - (i + 1)), rfl, d.2.mono (by omega), by omega, by omega, fun r H1 r0 r1 d1 => ?_⟩
      have hr1 : r.toNat < ls.length := by omega
      have hx : ls[r.toNat]? = some (ls[r.toNat]) := List.getElem?_eq_getElem hr1
      refine ⟨e, ls, r, r.toNat, _, rfl, rfl, d1.st nep h1, by omega, by omega, ?_, hx, ?_⟩
      · have z := seq_nat (n := ls.length) (k := r.toNat) hr1
        rw [show ((r.toNat : Nat) : Int) = r by omega] at z
        exact z
      refine ⟨o, ys, _, rfl, rfl, by rw [upd_ne neo]; exact d1.st nop h2, small1000 (by omega), ?_⟩
      refine ⟨_, ys ++ [ls[r.toNat]], ls.eraseIdx r.toNat, rfl, hi, (((d.trans d1).mut he nep).mut ho' nop), by rw [upd_ne neo.symm, upd_same], upd_same, ?_, by rw [List.length_append, hl]; rfl⟩
      rw [List.append_assoc]
      exact ((perm_pop hx).append_left ys).trans pm
    · rintro σ H' ⟨v, ys, ls, rfl, _, d, h1, h2, pm, hl⟩
      rw [Nat.sub_self] at d
      exact ⟨_, rfl, q o ys ls H' hl pm d ho' nop h2⟩
def spNumL : Sp := fun vs H Q _ => ∃ (t b : Int) (N : Nat), vs = [.int 0, .int t, .int b] ∧ 1 ≤ b ∧ b.natAbs < N ∧ t.natAbs < N ∧ N ≤ 2 ^ 4000 ∧ ∀ (a : Addr), H a = none → Q (.ref a) (upd H a (.tup [.int (redF t b).1, .int (redF t b).2]))
theorem ok_l_num (T : Txt K mg) : FnOk P w K mg base CX0 1 T.f_l_num T.fd_l_num ["by", "top", "bottom"] (spNumL) := by
  refine T.F_l_num.ok sc_l_num (fun vs H Q E h => ?_) (fun cdv A outer s H vs Q E hr h => ?_)
  · obtain ⟨t, b, N, rfl, _⟩ := h
    rfl
  · obtain ⟨t, b, N, rfl, h1, h2, h3, hN, q⟩ := h
    refine ⟨_, (pss_cons (ps_if (pt_cmpR op_gt (pv 0) pe_int (nomark _)) (pss_one (ps_ret (pe_tup (pa_cons (pe_op op_mod (pe_callTy call_int1 (by rfl) T.n_int (by decide +kernel) (pa_cons (pe_op op_mulW (pv 1) pe_dead) pa_nil)) (pv 0)) (pa_cons pe_int pa_nil))))) pss_nil)
  (pss_cons (ps_par (i := 3) (j := 4) (by rfl) sc_l_num.nd rfl rfl (by decide) rfl rfl (pa_cons (pe_callB call_abs (by rfl) T.n_abs (by decide +kernel) (pa_cons (pv 1) pa_nil)) (pa_cons (pe_callB call_abs (by rfl) T.n_abs (by decide +kernel) (pa_cons (pv 2) pa_nil)) pa_nil)) (by rfl))
  (pss_cons (ps_while PassesOwn.never (pt_cmpR op_gt (pv 4) pe_int (nomark _)) (pss_one (ps_par (i := 3) (j := 4) (by rfl) sc_l_num.nd rfl rfl (by decide) rfl rfl (pa_cons (pv 4) (pa_cons (pe_op op_mod (pe_callTy call_int1 (by rfl) T.n_int (by decide +kernel) (pa_cons (pv 3) pa_nil)) (pv 4)) pa_nil)) (by rfl))))
  (pss_cons (ps_set (i := 3) sc_l_num.nd rfl (Or.inl rfl) (pe_ifExp (pt_cmpR op_gt (pv 2) pe_int (nomark _)) (pv 3) (pe_un un_neg (pv 3))))
  (pss_one (ps_ret (pe_tup (pa_cons (pe_op op_fdivW (pv 1) (pv 3)) (pa_cons (pe_op op_fdivW (pv 2) (pv 3)) pa_nil))))))))), ?_⟩
    refine ⟨_, rfl, _, _, rfl, rfl, _, rfl, ?_⟩
    refine iteF ?_
    dsimp only [tNext, tSeq]
    refine ⟨.int t, rfl, t, rfl, .int b, rfl, b, rfl, _, _, rfl, ?_⟩
    have a1 : (if t < 0 then -t else t) = ((t.natAbs : Nat) : Int) := by
      split <;> omega
    have a2 : (if b < 0 then -b else b) = ((b.natAbs : Nat) : Int) := by
      split <;> omega
    rw [a1, a2]
    refine while_by (fun σ H' => ∃ x y : Nat, σ = [some (.int 0), some (.int t), some (.int b), some (.int (x : Int)), some (.int (y : Int))] ∧ Nat.gcd x y = Nat.gcd t.natAbs b.natAbs ∧ x < N ∧ y < N ∧ H' = H) (fun σ _ => vN σ[4]?)
      ⟨_, _, rfl, rfl, h3, h2, rfl⟩ ?_ ?_
    · rintro σ H' ⟨x, y, rfl, g, lx, ly, rfl⟩
      refine ⟨_, rfl, _, _, rfl, rfl, _, rfl, ?_⟩
      by_cases hy : 0 < y
      · rw [decide_eq_true (show ((y : Int) > 0) by omega)]
        refine iteT ?_
        refine ⟨_, rfl, _, rfl, .inl ⟨_, rfl, ?_⟩⟩
        refine ⟨_, rfl, _, _, rfl, rfl, (by omega), _, _, rfl, ?_⟩
        have em : (x : Int) % (y : Int) = ((x % y : Nat) : Int) := (Int.natCast_emod _ _).symm
        have lt := Nat.mod_lt x hy
        refine ⟨⟨y, x % y, congrArg (fun z => [some (V.int 0), some (.int t), some (.int b), some (.int (y : Int)), some (.int z)]) em, ?_, ly, by omega, rfl⟩, ?_⟩
        · rw [← g, Nat.gcd_comm x y, Nat.gcd_rec y x, Nat.gcd_comm]
        · show ((x : Int) % (y : Int)).toNat < ((y : Nat) : Int).toNat
          rw [em]
          omega
      · rw [decide_eq_false (show ¬ ((y : Int) > 0) by omega)]
        refine iteF ?_
        have ex : x = Nat.gcd t.natAbs b.natAbs := by
          rw [← g, show y = 0 by omega, Nat.gcd_zero_right]
        dsimp only [tNext, tSeq]
        refine ⟨_, rfl, _, _, rfl, rfl, _, rfl, ?_⟩
        rw [decide_eq_true (show b > 0 by omega)]
        refine iteT ?_
        have xp : 0 < x := by
          rw [ex]
          exact Nat.gcd_pos_of_pos_right _ (by omega)
        have xl : x < 2 ^ 4000 := Nat.lt_of_lt_of_le lx hN
        have wd : ∀ {i : Int}, CDivW i (x : Int) := wide_div (b := 4000) (Int.natCast_pos.mpr xp) (by rw [Int.natAbs_natCast]; exact xl) (by decide) (by decide)
        have q1 : t / (x : Int) = (redF t b).1 := by rw [ex]; rfl
        have q2 : b / (x : Int) = (redF t b).2 := by rw [ex]; rfl
        refine ⟨_, rfl, ?_⟩
        refine ⟨_, rfl, _, rfl, _, _, rfl, rfl, wd, _, rfl, _, rfl, _, _, rfl, rfl, wd, Nat.le_trans (show 2 ≤ 1000 by decide) (by decide), fun a ha => ?_⟩
        have q' := q a ha
        rw [← q1, ← q2] at q'
        exact q'
    · rintro σ H' Q1 Q2 hq ⟨v, e, i, j, e1, e2, k, e3, h⟩
      exact ⟨v, e, i, j, e1, e2, k, e3, hq _ _ h⟩
end
end OG
set_option Elab.async false
set_option linter.all false
set_option maxRecDepth 100000
set_option maxHeartbeats 8000000
namespace OG
open PySem PySem.Spec PyProof.Rows L2
def letterS (i : Nat) : Str := ⟨#[97 + i]⟩
def nmWords : List Str := ["x", "x", "s", "roads", "ones", "sum", "hole", "turns", "closed", "road"]
def allNames (i : Nat) : List Str := letterS i :: nmWords.map (· ++ istr (i : Int))
def keyN (z : Str) : Nat := match tl z with
  | [c] => c - 97
  | l => (l.filter fun c => decide (c < 97)).foldl (fun a c => a * 10 + (c - 48)) 0
/-- a line's name -/
def lnmB (z : Str) : Bool := isNmB 6 (Txt.rstripChars z "0123456789") && (decide (z.length - (Txt.rstripChars z "0123456789").length ≤ 9) && !decide (z ∈ (["script", "around", "one", "road", "close", "turn", "add"] : List Str)))
def niceC (c : Nat) : Bool := (decide (97 ≤ c) && decide (c ≤ 122)) || (decide (48 ≤ c) && decide (c ≤ 57))
/-- a name as it is drawn -/
structure NmAt (i : Nat) (z : Str) : Prop where
  key : keyN z = i
  nm : lnmB z = true
  len : 1 ≤ z.length ∧ z.length ≤ 8
  nice : ∀ c ∈ tl z, niceC c = true
theorem names_ok : ((List.range 20).all fun i => (allNames i).all fun z => decide (keyN z = i) && (lnmB z && (decide (1 ≤ z.length) && decide (z.length ≤ 8)) && (tl z).all niceC)) = true := by decide +kernel
theorem nmAt_of {i : Nat} (hi : i < 20) {z : Str} (h : z ∈ allNames i) : NmAt i z := by
  have := List.all_eq_true.mp (List.all_eq_true.mp names_ok i (List.mem_range.mpr hi)) z h
  simp only [Bool.and_eq_true, decide_eq_true_eq, List.all_eq_true] at this
  exact ⟨this.1, this.2.1.1, this.2.1.2, this.2.2⟩
section
variable {P : Program} {w : World} {K : PySem.W.Frag} {mg : Str → Option Value} {base : Heap}
theorem Pot.lst {k : Nat} {H : Hp} {p : Addr} (h : Pot k H p) : ∃ xs, H p = some (.lst xs) := by
  obtain ⟨a, b, c, h1, _⟩ := h
  exact ⟨_, h1⟩
theorem Dr.tk {p : Addr} {k j : Nat} {H H' : Hp} (d : Dr p k H H') (h : Pot j H p) : TK H H' := d.1.tk h.lst
def spFacD : Sp := fun vs H Q _ => ∃ (p : Addr) (k : Nat), vs = [.ref p, .int 0] ∧ Pot (k + 2) H p ∧ ∀ (a : Addr) (f : Fac) (H' : Hp), Dr p k H H' → H a = none → FacOk f → H' a = some (.tup [.int f.1, .int f.2]) → Q (.ref a) H'
theorem ok_l_script_factor_drawn (T : Txt K mg) : FnOk P w K mg base CX0 3 T.f_l_script_factor_drawn T.fd_l_script_factor_drawn ["pot", "by"] (spFacD) := by
  refine T.F_l_script_factor_drawn.ok sc_l_script_factor_drawn (fun vs H Q E h => ?_) (fun cdv A outer s H vs Q E hr h => ?_)
  · obtain ⟨p, k, rfl, _⟩ := h
    rfl
  · obtain ⟨p, k, rfl, hP, q⟩ := h
    refine ⟨_, (pss_cons (ps_set (i := 2) sc_l_script_factor_drawn.nd rfl (Or.inl rfl) (pe_call (ok_l_of T) (hr.mono (by decide)) (by rfl) T.g_l_of T.F_l_of.kp T.b_l_of .nil pass0 (pa_cons (pv 0) (pa_cons (pe_lst (pa_cons pe_int (pa_cons pe_int (pa_cons pe_int (pa_cons pe_int (pa_cons pe_int (pa_cons pe_int (pa_cons pe_int (pa_cons pe_int pa_nil))))))))) pa_nil))))
  (pss_cons (ps_if (PW.pt (pw_and (pt_cmpR op_gt (pv 1) pe_int (nomark _)) (pw_and1 (pt_cmpR op_eq (pe_op op_mod (pe_callTy call_int1 (by rfl) T.n_int (by decide +kernel) (pa_cons (pv 2) pa_nil)) (pv 1)) pe_int (nomark _))))) (pss_one (ps_set (i := 2) sc_l_script_factor_drawn.nd rfl (Or.inl rfl) pe_int)) pss_nil)
  (pss_one (ps_ret (pe_call (ok_l_num T) (hr.mono (by decide)) (by rfl) T.g_l_num T.F_l_num.kp T.b_l_num .nil pass0 (pa_cons pe_int (pa_cons (pe_call (ok_l_of T) (hr.mono (by decide)) (by rfl) T.g_l_of T.F_l_of.kp T.b_l_of .nil pass0 (pa_cons (pv 0) (pa_cons (pe_lst (pa_cons pe_int (pa_cons (pe_un un_neg pe_int) (pa_cons pe_int (pa_cons (pe_un un_neg pe_int) (pa_cons pe_int (pa_cons pe_int (pa_cons pe_int (pa_cons (pe_un un_neg pe_int) pa_nil))))))))) pa_nil))) (pa_cons (pv 2) pa_nil)))))))), ?_⟩
    have wide : ∀ {n : Nat}, n ≤ 1000 → n ≤ sizeLine := fun h => Nat.le_trans h (by decide)
    refine ⟨.ref p, rfl, wide (show 8 ≤ 1000 by decide), fun l1 hl1 => ?_⟩
    have s1 := same_new (o := .lst (([1, 1, 1, 1, 1, 2, 3, 4] : List Int).map V.int)) hl1
    refine ⟨p, l1, ([1, 1, 1, 1, 1, 2, 3, 4] : List Int).map V.int, k + 1, rfl, hP.same s1, SqL.of upd_same, hP.ne hl1, by decide, by decide, fun i x H1 hx d1 => ?_⟩
    obtain ⟨b, hb, rfl⟩ := int_at hx
    have hb := List.mem_of_getElem? hb
    have b14 : 1 ≤ b ∧ b ≤ 4 := by
      simp only [List.mem_cons, List.mem_nil_iff, or_false] at hb
      omega
    have d01 : Dr p (k + 1) H H1 := ⟨(Same.kp s1).trans d1.1, d1.2⟩
    refine ⟨_, rfl, _, _, rfl, rfl, _, rfl, ?_⟩
    refine iteF ?_
    refine iteF ?_
    dsimp only [tNext, tSeq]
    refine ⟨.ref p, rfl, _, rfl, _, rfl, _, rfl, wide (show 8 ≤ 1000 by decide), fun l2 hl2 => ?_⟩
    have s2 := same_new (o := .lst (([1, -1, 2, -2, 3, 0, 7, -5] : List Int).map V.int)) hl2
    refine ⟨p, l2, ([1, -1, 2, -2, 3, 0, 7, -5] : List Int).map V.int, k, rfl, d01.2.same s2, SqL.of upd_same, d01.2.ne hl2, by decide, by decide, fun i x H2 hx d2 => ?_⟩
    obtain ⟨t, ht, rfl⟩ := int_at hx
    have ht := List.mem_of_getElem? ht
    have t14 : t.natAbs ≤ 7 := by
      simp only [List.mem_cons, List.mem_nil_iff, or_false] at ht
      omega
    have d02 : Dr p k H H2 := ⟨(d01.1.trans (Same.kp s2)).trans d2.1, d2.2⟩
    refine ⟨_, rfl, t, b, 1001, rfl, b14.1, by omega, by omega, by decide +kernel, fun a ha => ?_⟩
    exact q a (redF t b) _ (d02.new ha) (d02.fr ha) (redF_ok b14.1 (by omega) (by omega) (List.mem_flatMap.mpr ⟨t, ht, List.mem_map.mpr ⟨b, hb, rfl⟩⟩)) upd_same
def spName9 : Sp := fun vs H Q _ => ∃ (p : Addr) (i k : Nat), vs = [.ref p, .int (i : Int)] ∧ i < 20 ∧ Pot (k + 2) H p ∧ ∀ (z : Str) (H' : Hp), Dr p k H H' → NmAt i z → Q (.str z) H'
theorem ok_l_script_name (T : Txt K mg) : FnOk P w K mg base CX0 3 T.f_l_script_name T.fd_l_script_name ["pot", "at"] (spName9) := by
  refine T.F_l_script_name.ok sc_l_script_name (fun vs H Q E h => ?_) (fun cdv A outer s H vs Q E hr h => ?_)
  · obtain ⟨p, i, k, rfl, _⟩ := h
    rfl
  · obtain ⟨p, i, k, rfl, hi, hP, q⟩ := h
    refine ⟨_, (pss_cons (ps_set (i := 2) sc_l_script_name.nd rfl (Or.inl rfl) (pe_call (ok_l_take T) (hr.mono (by decide)) (by rfl) T.g_l_take T.F_l_take.kp T.b_l_take .nil pass0 (pa_cons (pv 0) (pa_cons pe_int pa_nil))))
  (pss_cons (ps_if (PW.pt (pw_and (pt_cmpR op_eq (pv 2) pe_int (nomark _)) (pw_and1 (pt_cmpR op_lt (pv 1) pe_int (nomark _))))) (pss_one (ps_ret (pe_ix ix_str pe_str (pv 1) (fun _ _ => rfl)))) pss_nil)
  (pss_one (ps_ret (pe_op op_add_str (pe_call (ok_l_of T) (hr.mono (by decide)) (by rfl) T.g_l_of T.F_l_of.kp T.b_l_of .nil pass0 (pa_cons (pv 0) (pa_cons (pe_lst (pa_cons pe_str (pa_cons pe_str (pa_cons pe_str (pa_cons pe_str (pa_cons pe_str (pa_cons pe_str (pa_cons pe_str (pa_cons pe_str (pa_cons pe_str (pa_cons pe_str pa_nil))))))))))) pa_nil))) (pe_callTy call_str_int (by rfl) T.n_str (by decide +kernel) (pa_cons (pv 1) pa_nil))))))), ?_⟩
    have wide : ∀ {n : Nat}, n ≤ 1000 → n ≤ sizeLine := fun h => Nat.le_trans h (by decide)
    refine ⟨.ref p, rfl, p, 4, k + 1, rfl, hP, by decide, by decide, fun r H1 r0 r1 d1 => ?_⟩
    refine ⟨_, rfl, rfl, _, rfl, ?_⟩
    by_cases h0 : r = 0
    · rw [h0, decide_eq_true rfl]
      refine iteT ?_
      refine ⟨_, rfl, _, _, rfl, rfl, _, rfl, ?_⟩
      rw [decide_eq_true (show ((i : Nat) : Int) < 26 by omega)]
      refine iteT ?_
      have at_ : ∀ i < 20, atI (tl "abcdefghijklmnopqrstuvwxyz") ((i : Nat) : Int) = some (97 + i) := by decide +kernel
      exact ⟨_, rfl, _, (i : Int), 97 + i, rfl, rfl, wide (show 26 ≤ 1000 by decide), at_ i hi, q (letterS i) H1 ⟨d1.1, d1.2.mono (by omega)⟩ (nmAt_of hi List.mem_cons_self)⟩
    · rw [decide_eq_false (fun z => h0 (V.int.inj z))]
      refine iteF ?_
      refine iteF ?_
      dsimp only [tNext, tSeq]
      refine ⟨.ref p, rfl, wide (show 10 ≤ 1000 by decide), fun l1 hl1 => ?_⟩
      have s1 := same_new (o := .lst (nmWords.map V.str)) hl1
      refine ⟨p, l1, nmWords.map V.str, k, rfl, d1.2.same s1, SqL.of upd_same, d1.2.ne hl1, by decide, by decide, fun j x H2 hx d2 => ?_⟩
      obtain ⟨wd, hw, rfl⟩ := str_at hx
      have hw := List.mem_of_getElem? hw
      have wl : wd.length ≤ 6 := by
        have : ∀ w ∈ nmWords, w.length ≤ 6 := by decide +kernel
        exact this wd hw
      have il := istr_len (i := (i : Int)) (by omega) (by omega)
      refine ⟨_, rfl, i, rfl, small_log (by omega) (by omega), _, _, rfl, rfl, wide (by show _ + (istr (i : Int)).length ≤ _; omega), ?_⟩
      exact q (wd ++ istr (i : Int)) H2 ⟨(d1.1.trans (Same.kp s1)).trans d2.1, d2.2⟩ (nmAt_of hi (List.mem_cons_of_mem _ (List.mem_map.mpr ⟨wd, hw, rfl⟩)))
end
end OG
set_option Elab.async false
set_option linter.all false
set_option maxRecDepth 100000
set_option maxHeartbeats 4000000
namespace OGX
open PySem PySem.Spec PyProof.Rows L2
/-- at a: an exception of the class cls that is kept, its dict at d -/
def ExV (cls : Value) (d : Option Addr) (a : Addr) : HO := .ext fun h => ∃ (oe : Obj) (vs : Array Value), h.get? a = some oe ∧ Zc cls d oe ∧ oe.data = .fields vs
theorem exV_ok {P : Program} {w : World} {H : Hp} {h : Heap} {a : Addr} {cls : Value} {d : Option Addr} {oe : Obj} {vs : Array Value} (e : h.get? a = some oe) (z : Zc cls d oe) (dd : oe.data = .fields vs) : ObjOk P w H h a (ExV cls d a) :=
  ⟨⟨oe, vs, e, z, dd⟩, ⟨_, e⟩, fun h1 h2 z k => by
    obtain ⟨oe, vs, e, z, dd⟩ := z
    exact ⟨oe, vs, k _ e, z, dd⟩⟩
section
variable {X : Cx} {pins : List (Addr × Obj)} {σ : L2.St} {H : Hp} {s : Shared}
theorem keepX {a : Addr} {cls : Value} {d : Option Addr} {oe : Obj} {vs : Array Value} (I : Inv X pins σ H s) (ha : s.heap.get? a = some oe) (hz : Zc cls d oe) (hd : oe.data = .fields vs) (na : H a = none) (n0 : X.s_0.heap.get? a = none) (nL : a ≠ X.env.locals) (np : ∀ p ∈ X.pn ++ pins, p.1 ≠ a) :
    Inv X pins σ (upd H a (ExV cls d a)) s := by
  have ne : ∀ {b : Addr} {o : HO}, H b = some o → b ≠ a := fun {b o} e z => by
    rw [z, na] at e
    cases e
  have b0 := I.base
  refine ⟨I.ok, I.os, I.bare, ?_, I.loc, I.cell, ?_, fun x c e => ?_, fun p hp => ?_, fun b o q => ?_, I.len⟩
  · exact {
      keep := fun b o q n hf hx => b0.keep b o q n hf hx
      slot := fun b o q n hf hx => b0.slot b o q n hf hx
      free := fun b o q n hx => by
        rw [upd_ne (fun z => by rw [z, n0] at q; cases q)]
        exact b0.free b o q n hx
      there := fun b o q hx => b0.there b o q hx
      tups := fun b xs q => by
        have e := b0.tups b xs q
        rw [upd_ne (ne e)]
        exact e
      frzs := fun b o v q => by
        have e := b0.frzs b o v q
        rw [upd_ne (ne e)]
        exact e
      tbls := fun b ps q => by
        obtain ⟨more, e⟩ := b0.tbls b ps q
        exact ⟨more, by rw [upd_ne (ne e)]; exact e⟩ }
  · rw [upd_ne (Ne.symm nL)]
    exact I.free
  · rw [upd_ne (fun z => ?_)]
    · exact I.freeC x c e
    · obtain ⟨v, o, ho, hc⟩ := I.cell x c e
      rw [z, ha] at ho
      cases ho
      rw [hd] at hc
      cases hc
  · obtain ⟨p1, p2, p3⟩ := I.pin p hp
    exact ⟨p1, by rw [upd_ne (np p hp)]; exact p2, p3⟩
  · by_cases hb : b = a
    · subst hb
      rw [upd_same] at q
      cases q
      exact exV_ok ha hz hd
    · rw [upd_ne hb] at q
      exact (I.hok b o q).stay (fun c v hc z => z) (fun c hc => by rw [upd_ne (ne hc)]; exact hc) (fun c xs hc => by rw [upd_ne (ne hc)]; exact hc)
end
/-- what the clause 'except x as n' wishes, the exception kept behind the suite -/
def wKeep (K : PySem.W.Frag) (c : Value) (i : Nat) (ts : Addr → Value → Option Addr → TS) (Wout : WX) (D : Ends) : WX := fun cls d σ H =>
  ∃ b, PySem.W.exmOne K cls c = some b ∧ (b = true → ∀ a, H a = none → ts a cls d { nx := fun σ' H' => H' a = none → D.nx (σ'.set i none) (upd H' a (ExV cls d a)), rt := fun _ _ => False, bk := fun _ _ => False, ct := fun _ _ => False } (σ.set i (some (.ref a))) H) ∧
    (b = false → Wout cls d σ H)
section
variable {X : Cx} {x n : Str} {c : Value} {i : Nat} {body suite : List Stmt} {b₀ : Stmt} {np pos pos' : Pos} {tb : WX → TS} {ts : Addr → Value → Option Addr → TS} {Wout : WX}
theorem ps_try_keep (hex : X.ex = []) (hs : X.stack = X.env :: X.outer) (hf : X.env.frame = some X.env.locals) (hN : X.N.Nodup) (hi : X.N[i]? = some n) (hln : X.env.kindOf n = some .local) (hc : Names X x c) (tk : Takes X Wout)
    (hb : ∀ (W : WX) (pn : List (Addr × Obj)) (xe : Value → Shared → Prop), Takes (X.tr pn xe) W → PassesOwn (model X.prog X.w) X.A X.env xe → PSs (X.tr pn xe) body (tb W))
    (hsu : ∀ (a : Addr) (oe : Obj) (cls : Value) (d : Option Addr) (pn : List (Addr × Obj)), Zc cls d oe → (∃ vs, oe.data = .fields vs) → PSs (X.suite a ((a, oe) :: pn)) (b₀ :: suite) (ts a cls d)) :
    PS X (.Try body [.ExceptHandler (some (.Name x np)) (some n) (b₀ :: suite) pos'] [] [] pos) (fun D σ H => tb (wKeep X.K c i ts Wout D) D σ H) := by
  refine ⟨fun pins s σ H D I h => ?_⟩
  have ok := I.ok
  have hfr : X.A.frames = some (X.env :: X.outer) := by rw [ok.frames, hs]
  have hloc : Loc X.env.scope n := .inl hln
  refine wpAny_Try_except ?_
  refine wpAny_mono ((hb (wKeep X.K c i ts Wout D) (X.pn ++ pins) (fun e s₁ => wpAny (model X.prog X.w) X.A (noteFrame e X.env) (fun _ s₂ => wpAny (model X.prog X.w) X.A (setFlight e none) (fun _ s₃ =>
    wpAny (model X.prog X.w) X.A (handleBy e X.env [.ExceptHandler (some (.Name x np)) (some n) (b₀ :: suite) pos']) (SP X pins D) X.xe s₃) X.xe s₂) X.xe s₁) (fun u s' xx => ?_) PassesOwn.looking).run [] s σ H D (I.toTry _) h) (fun f s1 hsp => ?_) (fun e s1 he => he)
  · -- the catch
    obtain ⟨a, B, sI, pins', σ', H', cls, d, rfl, J', nb, up, sky, na, os, ag, b, hb1, hyes, hno⟩ := xx
    have J : Inv X pins σ' H' sI := J'.ofTry ok
    have sky' : Sky B (X.env :: X.outer) a (Zc cls d) X.env.locals s'.heap := by rw [← hs]; exact sky
    show wpAny (model X.prog X.w) X.A (noteFrame (.ref a) X.env) _ _ _
    refine Sky.land Zc.steady hfr hf sky' fun h3 fl3 up3 => ?_
    have J3 : Inv X pins σ' H' { s' with heap := h3 } := J.landed nb fl3.1 (up.trans up3) os ag
    obtain ⟨oe3, vs3, he3, hz3, hd3⟩ := fl3.there
    have notFr : ∀ {h : Heap} {o : Obj} {vs : Array Value}, h.FunFrames B (X.env :: X.outer) → h.get? a = some o → o.data = .fields vs → a ∉ frs (X.env :: X.outer) := fun {h o vs} ff e dd hm => by
      obtain ⟨_, o', e', hnf⟩ := ff.mem hm
      rw [e] at e'; cases e'
      exact hnf _ dd
    have nfr := notFr fl3.2.2.1 he3 hd3
    have hB : B.get? a = none := fl3.2.1
    have nI : sI.heap.get? a = none := by
      cases q : sI.heap.get? a with
      | none => rfl
      | some o =>
        have e := nb a o q (by rw [hs]; exact nfr)
        rw [hB] at e
        cases e
    have n0 : X.s_0.heap.get? a = none := by
      cases q : X.s_0.heap.get? a with
      | none => rfl
      | some o =>
        obtain ⟨o', e⟩ := J.base.there a o q (by rw [hex]; simp)
        rw [nI] at e
        cases e
    have npin : ∀ p ∈ X.pn ++ pins, p.1 ≠ a := fun p hp z => by
      have e := (J.pin p hp).1
      rw [z, nI] at e
      cases e
    have nL : a ≠ X.env.locals := fun z => nfr (List.mem_filterMap.mpr ⟨X.env, List.mem_cons_self, by rw [hf, z]⟩)
    have nF : a ∉ X.fs := fun hm => by
      obtain ⟨e, he, q⟩ := List.mem_filterMap.mp hm
      exact nfr (List.mem_filterMap.mpr ⟨e, List.mem_cons_of_mem _ he, q⟩)
    have S3 := J3.suite he3 hd3 na nL nF
    refine wpAny_handleBy_cons (codeAny_handlers_test ?_) (by intro q; cases q)
    have LT : PySem.W.Looks (model X.prog X.w) h3 (typeOf (.ref a)) cls := fun A Q E s k q => wpAny_typeOf_ref (k _ _ he3) (by rw [hz3.1]; exact q)
    have LM := PySem.W.exm_one (M := model X.prog X.w) (J3.kIn) LT hb1
    have test : ∀ {Q : Value → Shared → Prop} {E : Value → Shared → Prop}, Q c { s' with heap := h3 } → wpAny (model X.prog X.w) (X.A.mark (some (.ref a))) (eval (.Name x np) X.env) Q E { s' with heap := h3 } := fun {Q E} q => by
      obtain ⟨hg, hdbg, hm | ⟨hm, hv, hnn⟩⟩ := hc
      · exact ld_glob (X := X.suite a ((a, oe3) :: (X.pn ++ pins))) S3 hg hm q hdbg
      · exact ld_blt (X := X.suite a ((a, oe3) :: (X.pn ++ pins))) S3 hg hm hv q hnn hdbg
    refine test (LM.here ?_)
    cases b with
    | true =>
      refine codeAny_handlers_suite_as ?_
      refine HandSPX.lands_againZ fl3 fun h4 fl4 up4 => ?_
      have J4 : Inv X pins σ' H' { s' with heap := h4 } := J.landed nb fl4.1 ((up.trans up3).trans up4) os ag
      obtain ⟨oe4, vs4, he4, hz4, hd4⟩ := fl4.there
      have S4 := J4.suite he4 hd4 na nL nF
      refine store_ok (X := X.suite a ((a, oe4) :: (X.pn ++ pins))) (v := .ref a) S4 hN hi hloc rfl (fun s5 S5 => ?_) (.inr hln)
      refine wpAny_mono ((hsu a oe4 cls d (X.pn ++ pins) hz4 ⟨_, hd4⟩).run [] s5 _ H' _ S5 (hyes rfl a na)) (fun f s6 hsp => ?_) (fun _ _ z => False.elim z)
      cases f with
      | next =>
        obtain ⟨σ6, H6, S6, q6⟩ := hsp
        obtain ⟨p1, p2, _⟩ := S6.pin (a, oe4) (List.mem_append_left _ List.mem_cons_self)
        have J6 : Inv X pins σ6 (upd H6 a (ExV cls d a)) s6 := keepX (S6.unsuite ok) p1 hz4 hd4 p2 n0 nL npin
        exact gone_ok J6 hN hi hln fun s7 J7 => ⟨_, _, J7, q6 p2⟩
      | brk =>
        obtain ⟨σ6, H6, S6, q6⟩ := hsp
        exact False.elim q6
      | cont =>
        obtain ⟨σ6, H6, S6, q6⟩ := hsp
        exact False.elim q6
      | ret u =>
        obtain ⟨v6, σ6, H6, S6, r6, q6⟩ := hsp
        exact False.elim q6
    | false =>
      show wpAny _ X.A (handleBy (.ref a) X.env []) _ _ _
      refine wpAny_handleBy_nil ?_
      obtain ⟨k1, k2, k3, oe, vs, T, oT, ts', he, hz, hd, h1, hr⟩ := id fl3
      unfold PySem.passOn
      refine wpAny_bind (wpAny_field he hd h1 ?_)
      rw [if_neg (show ¬ ((Value.ref T == Value.none) = true) from by simp)]
      have fin : wpAny (model X.prog X.w) X.A (setFlight (.ref a) X.env.frame) (fun _ s4 => wpAny (model X.prog X.w) X.A (throw (.ref a) : Sem Flow) (SP X pins D) X.xe s4) X.xe { s' with heap := h3 } := by
        rw [hf]
        refine HandSPX.setFlight_upZ fl3 fun h4 hh4 up4 => wpAny_throw (tk _ _ ?_)
        exact ⟨a, B, sI, pins, σ', H', cls, d, rfl, J, nb, (up.trans up3).trans up4, .inr (.inr (by rw [hs]; exact hh4)), na, os, ag, hno rfl⟩
      first
        | exact wpAny_bind (wpAny_pure (wpAny_bind fin))
        | exact wpAny_bind fin
  · cases f with
    | next =>
      obtain ⟨σ', H', J', q⟩ := hsp
      exact wpAny_execs_nil ⟨σ', H', J'.ofTry ok, q⟩
    | brk =>
      obtain ⟨σ', H', J', q⟩ := hsp
      exact ⟨σ', H', J'.ofTry ok, q⟩
    | cont =>
      obtain ⟨σ', H', J', q⟩ := hsp
      exact ⟨σ', H', J'.ofTry ok, q⟩
    | ret u =>
      obtain ⟨v, σ', H', J', r, q⟩ := hsp
      exact ⟨v, σ', H', J'.ofTry ok, r, q⟩
end
/-- e.f, e a kept exception -/
def tXv (C : Addr) (f : Str) (te : TE) : TE := fun σ H Q => te σ H fun x H1 => ∃ (a dd : Addr) (fs : List (Str × V)) (v : V), x = .ref a ∧ H1 a = some (ExV (.ref C) (some dd) a) ∧ H1 dd = some (.xd fs) ∧ fs.lookup f = some v ∧ Q v H1
theorem pe_xv {X : Cx} {C : Addr} {e : Expr} {te : TE} {pos : Pos} {n : Str} (T : XfC X.K C) (hno : PySem.W.findIn X.K (.ref C) n = some none)
    (he : PE X e te) (hb : attributeBase e n X.env (eval e X.env) = eval e X.env := by rfl) :
    PE X (.Attribute e n pos) (tXv C n te) := by
  refine ⟨fun pins s σ H Q I h => ?_⟩
  refine attr_of hb (thn (he.run pins s σ H _ I h) fun u s1 hh => ?_)
  obtain ⟨x, H1, I1, rx, a, dd, fs, v, ex, eo, ea, l, q⟩ := hh
  subst ex
  obtain rfl : u = Value.ref a := rx
  obtain ⟨⟨oe, vs, ha, hz, hd⟩, _, _⟩ := I1.hok a _ eo
  have hx : ObjOk X.prog X.w H1 s1.heap dd (.xd fs) := I1.hok dd _ ea
  obtain ⟨mA, hns, hr⟩ := hx
  obtain ⟨od, ho, hl⟩ := lookIn_ns hns
  obtain ⟨u, hu, ru⟩ := RelO.some_of (v := v) (o := mA n) (by rw [← l]; exact hr n)
  have J : PySem.W.InstAt s1.heap a oe C (some od) := ⟨ha, hz.1, by unfold PySem.W.notCls; rw [hd] <;> rfl, by rw [hz.2]; exact ho⟩
  exact HandSPX.exc_get I1.kIn J T.ga T.gg T.exC (PySem.W.findObj_own T.hdC hno rfl (by rw [hl, hu])) (handed_of ru) ⟨v, H1, I1.tok _, ru, q⟩
/-- isinstance(e, c), e a kept exception -/
def rIsK (K : PySem.W.Frag) : List V → Hp → VK → Prop := fun xs H Q => ∃ (a D : Addr) (d : Addr) (fs : List (Str × V)) (c : V) (cv : Value) (b : Bool), xs = [.ref a, c] ∧ H a = some (ExV (.ref D) (some d) a) ∧ H d = some (.xd fs) ∧ ExcC K D ∧ (∀ u, RelV c u → u = cv) ∧ PySem.W.kitOne K (.ref D) cv = some b ∧ Q (.bl b) H
theorem call_isK {X : Cx} : CallR X (.builtin "isinstance") (rIsK X.K) := by
  intro pins s σ H xs us Q I r h
  obtain ⟨a, D, d, fs, c, cv, b, rfl, ha, hfs, C, hcv, e, q⟩ := h
  cases r with
  | cons rx rr =>
    cases rr with
    | cons rt rr =>
      cases rr
      cases rx
      have ec := hcv _ rt
      subst ec
      obtain ⟨⟨oe, vs, hget, hz, hd⟩, _, _⟩ := I.hok a _ ha
      have hx : ObjOk X.prog X.w H s.heap d (.xd fs) := I.hok d _ hfs
      obtain ⟨mA, hns, hr⟩ := hx
      obtain ⟨od, ho, hl⟩ := lookIn_ns hns
      have J : PySem.W.InstAt s.heap a oe D (some od) := ⟨hget, hz.1, by unfold PySem.W.notCls; rw [hd] <;> rfl, by rw [hz.2]; exact ho⟩
      obtain ⟨cdD, hcD, _⟩ := PySem.W.any_some C.hd
      exact PySem.W.kia_one (PySem.W.kitx_exc (by rw [hcD]; rfl) C.hg C.hk C.hs C.ha C.hn C.ht C.hm) I.kIn J e (fun z => nomatch z) fun tk => ⟨.bl b, H, I.kept (t' := tk) fun _ _ z => z, rfl, q⟩
end OGX
set_option Elab.async false
set_option linter.all false
set_option maxRecDepth 100000
set_option maxHeartbeats 4000000
namespace OGX
open PySem PySem.Spec PyProof.Rows L2
/-- the list at a as it stands at each turn, each item in a new pair behind its number from m on -/
def IteS (K : PySem.W.Frag) (a : Addr) (m : Nat) : It :=
  ⟨fun i H => ∃ (xs : List V) (x : V), SqL K H a xs ∧ xs[i]? = some x, fun i H v H' => ∃ T x, v = .ref T ∧ H T = none ∧ H' = upd H T (.tup [.int ((m + i : Nat) : Int), x]) ∧ ∀ xs, SqL K H a xs → xs[i]? = some x, fun i H => ∃ xs : List V, SqL K H a xs ∧ xs.length ≤ i⟩
theorem turn_enumS {P : Program} {w : World} {K : PySem.W.Frag} {elts : List Expr} {kk : Nat} {tpos : Pos} (m : Nat) (a e it : Addr) (hea : e ≠ a) (hia : a ≠ it) :
    Turn P w K (.Tuple elts kk tpos) (IteS K a m) [e, it] e (fun i h => (∃ old, IsEnum h e it ((m + i : Nat) : Int) old) ∧ h.IsListIter it a i ∧ e ≠ it) where
  mem := by simp
  obj := fun i h st b hb => by
    obtain ⟨⟨old, he⟩, ⟨o, ho, hc, hd⟩, _⟩ := st
    have e' : b = e ∨ b = it := by simpa using hb
    rcases e' with z | z
    · rw [z]; exact ⟨_, he, fun v q => nomatch q⟩
    · rw [z]; exact ⟨o, ho, fun v q => by rw [hd] at q; cases q⟩
  keep := fun i h h' st k => let ⟨⟨old, he⟩, hi, hne⟩ := st; ⟨⟨old, k e (by simp) _ he⟩, hi.at fun o q => k it (by simp) o q, hne⟩
  item := by
    intro X hP hw hK hc i pins s σ H E I hf st hg
    subst hP hw hK
    obtain ⟨⟨old, he⟩, hit, hne⟩ := st
    obtain ⟨xs, x, hq, hx⟩ := hg
    obtain ⟨its, rv, p, hz⟩ := I.list hq
    obtain ⟨u, hu, ru⟩ := rv.get hx
    have hel : e < s.heap.objs.size := Heap.lt_size he
    have hil : it < s.heap.objs.size := by obtain ⟨_, q, _⟩ := hit; exact Heap.lt_size q
    have hlt : i < its.toArray.size := by
      have := (List.getElem?_eq_some_iff.mp hu).1
      simpa using this
    refine wpAny_pyNext_enum_itemC (Draws.list (A := X.A.in1) (I.ok.hd hc) it a hia its.toArray) he ⟨hit, p.isList⟩ hlt hne (by simp [hne, hea]) fun u2 h' tk hu2 ho st' hT hsz hk => ?_
    have e2 : u2 = u := by
      have q : its.toArray[i]? = some u := by simpa using hu
      rw [q] at hu2
      exact (Option.some.inj hu2).symm
    subst e2
    obtain ⟨hit', _⟩ := st'
    refine ⟨_, rfl, wpAny_letOwnedTupleGo_enum (s := { s with heap := h', toks := tk + 1 }) ho fun h'' he' sb => ?_⟩
    have hT2 : h''.get? s.heap.objs.size = some { cls := .type "tuple", data := .seq #[.int ((m + i : Nat) : Int) tk, u2] } := (sb.2 _ (Nat.ne_of_gt hel)).trans hT
    have new : ObjOk X.prog X.w (upd H s.heap.objs.size (.tup [.int ((m + i : Nat) : Int), x])) h'' s.heap.objs.size (.tup [.int ((m + i : Nat) : Int), x]) :=
      ⟨by show 2 ≤ sizeLine; decide, [.int ((m + i : Nat) : Int) tk, u2], .cons ⟨_, rfl⟩ (.cons ru .nil), ⟨_, hT2, rfl, _, rfl⟩⟩
    have I1 : Inv X pins σ (upd H s.heap.objs.size (.tup [.int ((m + i : Nat) : Int), x])) { s with heap := h'', toks := tk + 1 } :=
      I.turnedNew (ch := [e, it]) (fun b ob hb q => (sb.2 b (fun z => hb (by simp [z]))).trans (hk b ob (fun z => hb (by simp [z])) (fun z => hb (by simp [z])) q)) hf (Nat.le_refl _) new
    refine ⟨.ref s.heap.objs.size, _, I1, rfl, ⟨_, x, rfl, I.hok.fresh (Nat.le_refl _), rfl, fun ys hy => by rw [I.list_inj hy hq]; exact hx⟩, ⟨⟨u2, ?_⟩, hit'.at fun o q => (sb.2 it (Ne.symm hne)).trans q, hne⟩, fun b hb => ?_⟩
    · have e1 : ((m + (i + 1) : Nat) : Int) = ((m + i : Nat) : Int) + 1 := by omega
      rw [e1]; exact he'
    · have hb' : b < s.heap.objs.size := by
        have e' : b = e ∨ b = it := by simpa using hb
        rcases e' with z | z
        · rw [z]; exact hel
        · rw [z]; exact hil
      rw [upd_ne (Nat.ne_of_lt hb')]
      exact (hf b hb).1
  done := by
    intro X hP hw hK hc i pins s σ H E I hf st hg
    subst hP hw hK
    obtain ⟨⟨old, he⟩, hit, hne⟩ := st
    obtain ⟨xs, hq, hx⟩ := hg
    obtain ⟨its, rv, p, hz⟩ := I.list hq
    obtain ⟨f0, f1, f2, f3, f4, f5⟩ := hf it (by simp)
    have hl := rv.length
    have hT : s.TypeIs (.ref e) "enumerate" := ⟨_, he, rfl⟩
    unfold pyNext
    refine wpAny_bind (wpAny_attempt (wpAny_callSpecial?_slot (name := Str.ofString "__next__") hT F.slot_enumerate_next
      (wpAny_call_entry F.slot_enumerate_next hT F.entry_enumerate_next ?_ (F.args_enumerate_next_1 _))))
    show wpAny _ _ (field (.ref e) 2 >>= _) _ _ _
    refine wpAny_bind (wpAny_field he rfl (x := .ref it) rfl ?_)
    refine wpAny_bind (wpAny_nextOf_list_end (I.ok.hd hc) hit p.isList (by simp; omega) fun h' x he' hx' => ?_)
    obtain ⟨o, ho, hcc⟩ := hx'
    refine wpAny_bind (wpAny_isInstance (T := "StopIteration") (b := true) ⟨o, ho, hcc⟩ isSubtype_stop ?_)
    exact wpAny_pure ⟨rfl, I.turned (t' := s.toks) (fun b o hb q => he' b o hb q) f0 f1 f3 f4 f5⟩
  self := fun A i s Q E st h => let ⟨⟨_, he⟩, _⟩ := st; wpAny_pyIter_enum he h
theorem callWith_type_kw {M : Model} {A : Around} {E : Value → Shared → Prop} {s : Shared} {env : Env} {pos : Pos} {id : String} {e : Expr} {rest : List Expr} {kws : List Keyword} {Q : Value → Shared → Prop}
    (h : wpAny M A (spliced (backTo pos (starEach (e :: rest) env))) (fun vs s₁ => wpAny M A (evalAll ((backToKw pos (keywordEach kws env)).map (·.2)))
      (fun kvs s₂ => wpAny M A (call (.type id) vs (((backToKw pos (keywordEach kws env)).filterMap (·.1)).zip kvs)) Q E s₂) E s₁) E s)
    (he : backTo pos (starEach (e :: rest) env) = (false, eval e env) :: backTo pos (starEach rest env) := by rfl)
    (hplain : (backTo pos (starEach (e :: rest) env)).any (·.1) = false := by rfl)
    (hall : (backToKw pos (keywordEach kws env)).all (·.1.isSome) = true := by rfl)
    (hkw : (backToKw pos (keywordEach kws env)).any (·.1.isNone) = false := by rfl) :
    wpAny M A (callWith pos (.type id) [] (backTo pos (starEach (e :: rest) env)) (backToKw pos (keywordEach kws env))) Q E s := by
  have key : wpAny M A (evalArgs (.type id) true (backTo pos (starEach (e :: rest) env)) (backToKw pos (keywordEach kws env))) (fun a s₁ => wpAny M A (call (.type id) ([] ++ a.pos) a.kw) Q E s₁) E s := by
    rw [he] at h ⊢
    exact evalArgs_kwB hall h
  unfold callWith
  refine wpAny_bind (wpAny_holding (wpAny_mono key (fun a s₁ h₁ => wpAny_bind (wpAny_standAt ?_)) fun _ _ x => x))
  simp only [hplain, hkw, Bool.or_false]
  refine wpAny_bind (wpAny_pure ?_)
  exact wpAny_bind (wpAny_mono h₁ (fun r s₂ hr => wpAny_bind (wpAny_holding (wpAny_point (wpAny_pure hr)))) fun _ _ x => x)
def iEnumS (K : PySem.W.Frag) (ta tk : TA) : TI := fun σ H R => ta σ H fun vs H1 => tk σ H1 fun zs H2 => ∃ a xs, ∃ m : Nat, vs = [.ref a] ∧ zs = [.int (m : Int)] ∧ m ≤ 1000 ∧ SqL K H2 a xs ∧ R (IteS K a m) H2
theorem pi_enumS {X : Cx} {e ke : Expr} {ta tk : TA} {p pos tpos kpos : Pos} {elts : List Expr} {kk : Nat} (hg : Gl X "enumerate") (hm : X.mg "enumerate" = none) (ha : PA X [e] ta) (hk : PK X [⟨some "start", ke, kpos⟩] tk)
    (he : backTo pos (starEach [e] X.env) = (false, eval e X.env) :: backTo pos (starEach [] X.env) := by rfl)
    (hall : (backToKw pos (keywordEach [⟨some "start", ke, kpos⟩] X.env)).all (·.1.isSome) = true := by rfl) (hks : (backToKw pos (keywordEach [⟨some "start", ke, kpos⟩] X.env)).filterMap (·.1) = [("start" : Str)] := by rfl) :
    PI X (.Tuple elts kk tpos) (.Call (.Name "enumerate" p) [e] [⟨some "start", ke, kpos⟩] pos) (iEnumS X.K ta tk) := by
  refine ⟨fun pins s σ H R I h => ?_⟩
  refine wpAny_Call_Name_kw (ld_blt I hg hm boot_enumerate (callWith_type_kw (thn (ha.run pos pins s σ H _ I h) fun us s1 ⟨vs, H1, I1, r1, q1⟩ => thn (hk.run pos pins s1 σ H1 _ I1 q1) fun ws s2 ⟨zs, H2, I2, r2, q2⟩ => ?_) he (by rw [he]; rfl) hall (by rfl)))
  obtain ⟨a, xs, m, ex, ez, hm1000, hq, q⟩ := q2
  subst ex
  subst ez
  rw [hks]
  cases r1 with
  | cons r rr =>
    cases rr
    cases r
    cases r2 with
    | cons rz rrz =>
      cases rrz
      obtain ⟨tz, rfl⟩ := rz
      obtain ⟨its, rv, p', hz⟩ := I2.list hq
      have hal : a < s2.heap.objs.size := by
        obtain ⟨o, ho, _⟩ := p'.isList
        exact Heap.lt_size ho
      refine enum_begins_start (k := (m : Int)) (t := tz) (begins_list a its.toArray) p'.isList (by rw [show (2:Int) ^ 63 = 9223372036854775808 by decide]; omega) (by rw [show (2:Int) ^ 63 = 9223372036854775808 by decide]; omega) fun h' he' hit hsz hkk => wpAny_pyIter_enum he' ?_
      have I3 : Inv X pins σ H2 { s2 with heap := h' } := I2.kept (t' := s2.toks) hkk
      have hit2 : h'.IsListIter s2.heap.objs.size a 0 := ⟨_, hit, rfl, rfl⟩
      refine ⟨s2.heap.objs.size + 1, [s2.heap.objs.size + 1, s2.heap.objs.size], _, _, H2, rfl, I3, turn_enumS m a (s2.heap.objs.size + 1) s2.heap.objs.size (Nat.ne_of_gt (Nat.lt_succ_of_lt hal)) (Nat.ne_of_lt hal), ⟨⟨.none, he'⟩, hit2, Nat.succ_ne_self _⟩, fun b hb => ?_, q⟩
      have e' : b = s2.heap.objs.size + 1 ∨ b = s2.heap.objs.size := by simpa using hb
      have hle : s2.heap.objs.size ≤ b := by
        rcases e' with z | z
        · rw [z]; exact Nat.le_add_right _ _
        · rw [z]; exact Nat.le_refl _
      exact I2.fpOk hle (I2.hok.fresh hle)
theorem for_enumS {K : PySem.W.Frag} {a : Addr} {xs : List V} {g : TG} {tb : TS} {D : Ends} {σ : L2.St} {H : Hp} {m0 : Nat} (Pv : Nat → L2.St → Hp → Prop) (h0 : Pv 0 σ H) (hq : ∀ i σ H, Pv i σ H → SqL K H a xs)
    (hs : ∀ (i : Nat) (x : V) (T : Addr) (σ : L2.St) (H : Hp), xs[i]? = some x → Pv i σ H → H T = none → g (.ref T) σ (upd H T (.tup [.int ((m0 + i : Nat) : Int), x])) fun σ2 H2 => tb { D with nx := Pv (i + 1), ct := Pv (i + 1), bk := D.nx } σ2 H2) (hd : ∀ σ H, Pv xs.length σ H → D.nx σ H) :
    ∃ W : Nat → Nat → L2.St → Hp → Prop, (∃ m, W 0 m σ H) ∧ ∀ i m σ H, W i m σ H →
      ((IteS K a m0).stop i H ∧ D.nx σ H) ∨ ((IteS K a m0).go i H ∧ ∃ N : L2.St → Hp → Prop, (∀ σ' H', N σ' H' → ∃ m', m' < m ∧ W (i + 1) m' σ' H') ∧ ∀ v H', (IteS K a m0).yld i H v H' → g v σ H' fun σ2 H2 => tb { D with nx := N, ct := N, bk := D.nx } σ2 H2) := by
  refine ⟨fun i m σ H => m = xs.length - i ∧ i ≤ xs.length ∧ Pv i σ H, ⟨xs.length, rfl, Nat.zero_le _, h0⟩, ?_⟩
  rintro i m σ H ⟨rfl, hi, p⟩
  have q := hq i σ H p
  by_cases hlt : i < xs.length
  · refine .inr ⟨⟨xs, xs[i], q, List.getElem?_eq_getElem hlt⟩, Pv (i + 1), fun σ' H' p' => ⟨xs.length - (i + 1), by omega, rfl, hlt, p'⟩, fun v H' hy => ?_⟩
    obtain ⟨T, x, rfl, nT, rfl, f⟩ := hy
    exact hs i x T σ H (f xs q) p nT
  · have e : i = xs.length := by omega
    subst e
    exact .inl ⟨⟨xs, q, Nat.le_refl _⟩, hd σ H p⟩
end OGX
set_option Elab.async false
set_option linter.all false
set_option maxRecDepth 100000
set_option maxHeartbeats 4000000
namespace L2
open PySem PySem.Spec PyProof.Rows
section
variable {prog : Program} {w : World} {A : Around} {E : Value → Shared → Prop} {s : Shared} {T : String} {r d : Addr} {n : Nat} {PP : Nat → Value → Prop} {OK : Heap → Prop}
theorem collect_kdl {Q : List Value → Shared → Prop} (K : PySem.W.KdlSrc prog w T r d n PP OK) (hh : A.handled = none) (hok : OK s.heap) (hlen : n ≤ sizeLine)
    (hQ : ∀ (h' : Heap) (tk : Nat) (acc : Array Value), (∀ b o, s.heap.get? b = some o → h'.get? b = some o) → ItemsOf PP acc n → Q acc.toList { s with heap := h', toks := tk }) :
    wpAny (model prog w) A (collect (.ref r)) Q E s := by
  unfold collect
  refine wpAny_bind (wpAny_runValue (codeAny_builtin F.entry_proto_collect ?_))
  rw [Around.under_plainId F.plain_proto_collect _]
  show wpAny _ A.in1 (newList [] >>= fun l => again (.builtin "list.__iadd__" ⟨[l, .ref r], []⟩)) _ _ s
  refine wpAny_bind (wpAny_newObj_type ?_)
  refine wpAny_pure ⟨plainId_quiet F.plain_list_iadd _, codeAny_builtin F.entry_list_iadd ?_⟩
  rw [Around.under_plainId F.plain_list_iadd _]
  show wpAny _ A.in1 (Builtin.List.listExtendWith (.ref s.heap.objs.size) (.ref r) (.ref s.heap.objs.size)) _ _ _
  have hS : (s.heap.push { cls := .type "list", data := .seq ([] : List Value).toArray }).get? s.heap.objs.size = some { cls := .type "list", data := .seq #[] 0 } := Heap.get?_push_size _ rfl
  have hlt := K.there _ hok
  refine wpAny_mono (PySem.W.kdl_extend (A := A) (R := fun rr s' => rr = .ok (.ret (.ref s.heap.objs.size)) ∧ ∃ (h' : Heap) (tk : Nat) (acc : Array Value) (c' : Nat), s' = { s with heap := h', toks := tk } ∧
      (∀ b o, s.heap.get? b = some o → h'.get? b = some o) ∧ h'.get? s.heap.objs.size = some { cls := .type "list", dict := none, data := .seq acc c', slots := #[] } ∧ ItemsOf PP acc n)
    (s := { s with heap := s.heap.push { cls := .type "list", data := .seq ([] : List Value).toArray } }) K hh (K.keep _ _ hok fun b _ o e => Heap.get?_push_of_some _ e) _ (Nat.ne_of_gt hlt.1) (Nat.ne_of_gt hlt.2) _ 0 hS
    (fun h' tk acc c' hk e hi => ⟨rfl, h', tk, acc, c', rfl, fun b o q => hk b o (Nat.ne_of_lt (Heap.lt_size q)) (Heap.get?_push_of_some _ q), e, hi⟩) hlen) (fun fin s' h => ?_) (fun e s' h => ?_)
  · cases fin with
    | done f =>
      obtain ⟨e, h', tk, acc, c', rfl, hk, hS', hi⟩ := h
      cases e
      show wpAny _ A (load s.heap.objs.size >>= _) _ _ _
      exact wpAny_bind (wpAny_load hS' (wpAny_pure (hQ h' tk acc hk hi)))
    | again c' =>
      refine ⟨h.1, codeAny_mono h.2 fun rr s'' hr' => ?_⟩
      obtain ⟨rfl, h', tk, acc, c', rfl, hk, hS', hi⟩ := hr'
      show wpAny _ A (load s.heap.objs.size >>= _) _ _ _
      exact wpAny_bind (wpAny_load hS' (wpAny_pure (hQ h' tk acc hk hi)))
  · exact absurd h.1 (by simp)
theorem code_tuple_new_kdl {Q₁ : Value → Shared → Prop} (K : PySem.W.KdlSrc prog w "dict" r d n PP OK) (hh : A.handled = none) (hok : OK s.heap) (hlen : n ≤ sizeLine)
    (h : ∀ (h' : Heap) (tk : Nat) (acc : Array Value), (∀ b o, s.heap.get? b = some o → h'.get? b = some o) → ItemsOf PP acc n →
      Q₁ (.ref h'.objs.size) { s with heap := h'.push { cls := .type "tuple", data := .seq acc }, toks := tk }) :
    codeAny (model prog w) A (.call (.builtin "tuple.__new__") ⟨[.type "tuple", .ref r], []⟩) (wants Q₁ E) s := by
  refine codeAny_of_tree ?_
  show wpAny _ A.in1 (do checkBuiltinCall "tuple.__new__" ⟨[.type "tuple", .ref r], []⟩; again (.builtin "tuple.__new__" ⟨[.type "tuple", .ref r], []⟩)) _ _ s
  refine wpAny_bind (wpAny_of_eq (F.newCall_tuple_1 _) (wpAny_pure ⟨plainId_quiet F.plain_tuple_new _, codeAny_builtin F.entry_tuple_new ?_⟩))
  rw [Around.under_plainId F.plain_tuple_new _]
  have hsub := sub_tuple_self
  have hinit := init_tuple_lookup
  have hmh := madeHere_tuple
  have hTI : s.TypeIs (.ref r) "dict" := K.type s hok
  have hh1 : A.in1.handled = none := hh
  wp_walk using wpAny_typeOf hTI, collect_kdl (A := A.in1) K hh1 hok hlen
  intro h' tk acc hk hacc
  show wpAny _ _ (Builtin.Tuple.tupleExact acc.toList.toArray >>= fun v => ret v) _ _ _
  unfold Builtin.Tuple.tupleExact
  refine wpAny_bind (wpAny_newObj_type ?_ (by show acc.toList.toArray.size ≤ sizeLine; simp only [Array.toArray_toList]; rw [hacc.1]; exact hlen))
  refine wpAny_pure ?_
  have e : acc.toList.toArray = acc := by simp
  rw [e]
  exact h h' tk acc hk hacc
theorem call_tuple_kdl {Q : Value → Shared → Prop} (K : PySem.W.KdlSrc prog w "dict" r d n PP OK) (hh : A.handled = none) (hok : OK s.heap) (hlen : n ≤ sizeLine)
    (hQ : ∀ (h' : Heap) (tk : Nat) (acc : Array Value), (∀ b o, s.heap.get? b = some o → h'.get? b = some o) → ItemsOf PP acc n →
      Q (.ref h'.objs.size) { s with heap := h'.push { cls := .type "tuple", data := .seq acc }, toks := tk }) :
    wpAny (model prog w) A (call (.type "tuple") [.ref r]) Q E s := by
  refine callType_codes (Q₁ := fun obj s₁ => s₁.TypeIs obj "tuple" ∧ Q obj s₁) F.called_tuple (F.typeCall_tuple_1 _) F.entry_object_init
    (code_tuple_new_kdl (A := A.in1) K hh hok hlen fun h' tk acc hk hacc => ⟨⟨_, Heap.get?_push_size _ rfl, rfl⟩, hQ h' tk acc hk hacc⟩) fun obj s₁ h₁ => ?_
  exact ⟨h₁.1, F.args_object_init_2 obj _, object_init_meets F.called_tuple.init.lookup F.called_tuple.made (by decide) prog w A.in1 _ s₁ ⟨h₁.1, rfl, h₁.2⟩⟩
end
def rTupleD : List V → Hp → VK → Prop := fun xs H Q => ∃ p kvs, xs = [.ref p] ∧ H p = some (.dK kvs) ∧ ∀ q, H q = none → Q (.ref q) (upd H q (.tup (kvs.map fun kv => kV kv.1)))
theorem call_tuple_dK {X : Cx} (hc : X.calm = true) : CallR X (.type "tuple") rTupleD := by
  intro pins s σ H xs us Q I r h
  obtain ⟨p, kvs, e, hk, q⟩ := h
  subst e
  obtain ⟨u, eu, rx⟩ := vals1 r
  subst eu
  obtain rfl : u = Value.ref p := rx
  obtain ⟨z, lo, vs, rk, hd⟩ := (show ObjOk X.prog X.w H s.heap p (.dK kvs) from I.hok p _ hk)
  obtain ⟨ep, hat⟩ := hd.dictAt
  have hl : kvs.length = vs.length := Paired.length rk
  refine call_tuple_kdl (PySem.W.kdl_dict (knd := mixKind X.prog X.w) (kvs := vs) (ep := ep) lo) (I.ok.hd hc) hat (by rw [← hl]; exact z) fun h' tk acc' hkeep hacc => ?_
  have I1 : Inv X pins σ H { s with heap := h', toks := tk } := I.kept (t' := tk) hkeep
  have hv : Vals (kvs.map fun kv => kV kv.1) acc'.toList := by
    have el : acc'.toList.length = acc'.size := by simp
    refine vals_of_at (by rw [List.length_map, el, hacc.1, hl]) fun j x w h1 h2 => ?_
    obtain ⟨k, y, hky, hi⟩ := hacc.2 j w (by rw [← Array.getElem?_toList]; exact h2)
    have e1 : (kvs.map (·.1))[j]? = some k := by
      rw [KV.keys rk, List.getElem?_map, hky] <;> rfl
    have e2 : (kvs.map fun kv => kV kv.1)[j]? = some (kV k) := by
      have e3 : (kvs.map fun kv => kV kv.1) = (kvs.map (·.1)).map kV := by rw [List.map_map] <;> rfl
      rw [e3, List.getElem?_map, e1] <;> rfl
    rw [e2] at h1
    cases h1
    exact keyIs_rel hi
  have I2 : Inv X pins σ (upd H h'.objs.size (.tup (kvs.map fun kv => kV kv.1))) { s with heap := h'.push { cls := .type "tuple", data := .seq acc' }, toks := tk } :=
    I1.laid (t' := tk) (fun b o e => Heap.get?_push_of_some _ e) (Nat.le_refl _) (show ObjOk X.prog X.w _ _ _ (.tup (kvs.map fun kv => kV kv.1)) from ⟨by rw [List.length_map]; exact z, acc'.toList, hv, by rw [Array.toArray_toList]; exact IsTup.new _ _⟩)
  exact ⟨.ref h'.objs.size, _, I2, rfl, q _ (I1.hok.fresh (Nat.le_refl _))⟩
/-- .. with the very object, which has no dict -/
def rTupleDF : List V → Hp → VK → Prop := fun xs H Q => ∃ p kvs, xs = [.ref p] ∧ H p = some (.dK kvs) ∧ ∀ q ob, H q = none → ob.dict = none → Q (.ref q) (upd H q (.frz ob (.tup (kvs.map fun kv => kV kv.1))))
theorem call_tuple_dKF {X : Cx} (hc : X.calm = true) : CallR X (.type "tuple") rTupleDF := by
  intro pins s σ H xs us Q I r h
  obtain ⟨p, kvs, e, hk, q⟩ := h
  subst e
  obtain ⟨u, eu, rx⟩ := vals1 r
  subst eu
  obtain rfl : u = Value.ref p := rx
  obtain ⟨z, lo, vs, rk, hd⟩ := (show ObjOk X.prog X.w H s.heap p (.dK kvs) from I.hok p _ hk)
  obtain ⟨ep, hat⟩ := hd.dictAt
  have hl : kvs.length = vs.length := Paired.length rk
  refine call_tuple_kdl (PySem.W.kdl_dict (knd := mixKind X.prog X.w) (kvs := vs) (ep := ep) lo) (I.ok.hd hc) hat (by rw [← hl]; exact z) fun h' tk acc' hkeep hacc => ?_
  have I1 : Inv X pins σ H { s with heap := h', toks := tk } := I.kept (t' := tk) hkeep
  have hv : Vals (kvs.map fun kv => kV kv.1) acc'.toList := by
    have el : acc'.toList.length = acc'.size := by simp
    refine vals_of_at (by rw [List.length_map, el, hacc.1, hl]) fun j x w h1 h2 => ?_
    obtain ⟨k, y, hky, hi⟩ := hacc.2 j w (by rw [← Array.getElem?_toList]; exact h2)
    have e1 : (kvs.map (·.1))[j]? = some k := by
      rw [KV.keys rk, List.getElem?_map, hky] <;> rfl
    have e2 : (kvs.map fun kv => kV kv.1)[j]? = some (kV k) := by
      have e3 : (kvs.map fun kv => kV kv.1) = (kvs.map (·.1)).map kV := by rw [List.map_map] <;> rfl
      rw [e3, List.getElem?_map, e1] <;> rfl
    rw [e2] at h1
    cases h1
    exact keyIs_rel hi
  have I2 : Inv X pins σ (upd H h'.objs.size (.frz { cls := .type "tuple", data := .seq acc' } (.tup (kvs.map fun kv => kV kv.1)))) { s with heap := h'.push { cls := .type "tuple", data := .seq acc' }, toks := tk } :=
    I1.laid (t' := tk) (fun b o e => Heap.get?_push_of_some _ e) (Nat.le_refl _) (show ObjOk X.prog X.w _ _ _ (.frz _ (.tup (kvs.map fun kv => kV kv.1))) from ⟨Heap.get?_push_size _ rfl, by rw [List.length_map]; exact z, acc'.toList, hv, by rw [Array.toArray_toList]; exact IsTup.new _ _⟩)
  exact ⟨.ref h'.objs.size, _, I2, rfl, q _ _ (I1.hok.fresh (Nat.le_refl _)) rfl⟩
end L2
set_option Elab.async false
set_option linter.all false
set_option maxRecDepth 100000
set_option maxHeartbeats 4000000
namespace OGX
open PySem PySem.Spec PyProof.Rows L2 LamX
section
variable {X : Cx} {pins : List (Addr × Obj)} {σ : L2.St} {H HZ : Hp} {s s1 : Shared}
/-- x() in the def that got the lambda, its slots told: what is let out is told of these very slots -/
theorem pe_actS {CXg : CXT} {Eg : XK} {Ng : List Str} {qg : Str} {sg : Scope} {g f c' : Addr} {cdg pm ctv : Value} {params : Arguments} {body : Expr} {scope : Scope} {k i : Nat} {a : Str} {pn : List (Addr × Obj)} {xe : Value → Shared → Prop} {W : WX} {E : XK} {tb : TE} {p1 p2 : Pos} {σ0 : L2.St}
    (I : Inv X pins σ H s) (L : LamS X.env.scope scope) (hf : s.heap.get? f = some (PySem.W.kla_obj "<lambda>" (X.env.qual ++ "<lambda>") params body scope (cloFrom X.env.cells scope.names []) pm c' ctv)) (hfn : H f = none) (hfr : f ∉ frs X.stack)
    (hbind : bindArgs (PySem.W.kla_fn "<lambda>" (X.env.qual ++ "<lambda>") params body scope (cloFrom X.env.cells scope.names []) pm (.ref c') ctv) ⟨[], []⟩ = pure [])
    (tk : Takes ((cxOf CXg X.prog X.w X.K X.mg X.base Ng qg sg g cdg X.A X.stack s H Eg).tr pn xe) W) (hW : ∀ cls d H', E cls d H' → W cls d σ0 H') (hr : Room (k + 1) (X.A.deeper (envOfC qg sg s.heap.objs.size g cdg)))
    (hbody : ∀ (A : Around) (outer : List Env) (s : Shared) (H : Hp), Room k (A.deeper (lamEnv X scope s.heap.objs.size f c')) → PE (lamCx X A outer s H E scope f c') body tb)
    (hN : Ng[i]? = some a) (hv : Vis sg a) (hd : (a == ("__debug__" : Str)) = false := by decide) (hcd : (a == ("__classdict__" : Str)) = false := by decide) :
    PE ((cxOf CXg X.prog X.w X.K X.mg X.base Ng qg sg g cdg X.A X.stack s H Eg).tr pn xe) (.Call (.Name a p1) [] [] p2)
      (fun σZ HZ Q => σZ = σ0 ∧ σZ[i]? = some (some (.ref f)) ∧ HZ c' = some (CodeO c' (X.env.qual ++ "<lambda>")) ∧ tb σ HZ Q) := by
  refine ⟨fun pinsZ sZ σZ HZ Q IZ h => ?_⟩
  obtain ⟨e0, hs, hc, ht⟩ := h
  subst e0
  refine wpAny_Call_Name_kw (thn ((pe_var (pos := p1) (i := i) hN hv hd hcd).run pinsZ sZ σZ HZ (fun v H1 => v = .ref f ∧ H1 = HZ) IZ ⟨.ref f, hs, rfl, rfl⟩) fun u s1 ⟨v, H1, I1, r1, q1⟩ => ?_)
  obtain ⟨ev, eH⟩ := q1
  subst ev
  rw [eH] at I1
  obtain rfl : u = Value.ref f := r1
  have of1 : s1.heap.get? f = some (PySem.W.kla_obj "<lambda>" (X.env.qual ++ "<lambda>") params body scope (cloFrom X.env.cells scope.names []) pm c' ctv) := I1.base.keep f _ hf hfn hfr (fun z => nomatch (show f ∈ ([] : List Addr) from z))
  refine PySem.W.callWith_F0 ⟨_, _, _, _, of1⟩ ?_
  have un : Un (frs X.stack) [] H HZ s.heap s1.heap := I1.base
  obtain ⟨⟨oc, vs, t, hoc, hdc, hvc⟩, _, _⟩ := I1.hok c' _ hc
  have rc : codeAny (model X.prog X.w) (X.A.deeper (envOfC qg sg s.heap.objs.size g cdg)) (.call (.ref f) ⟨[], []⟩) (CR (L2.CX X.prog X.w) (envOfC qg sg s.heap.objs.size g cdg :: X.stack) X.prog X.w HZ s1 Q E) s1 := by
    refine PySem.W.kla_callFunE hr.depth of1 rfl L.co L.gen rfl ⟨c', oc, vs, t, rfl, hoc, hdc, hvc⟩ ?_
    rw [hbind]
    refine wpAny_pure (wpAny_newFunctionEnv (fun y hy => (L.own y hy).2) (fun y hy => absurd hy (by simp)) (fun h₁ hns hsb => ⟨I1.nolimit.fresh _ hsb, ?_⟩) L.kind)
    show codeAny _ _ (.expr body (lamEnv X scope s1.heap.objs.size f c')) _ _
    have kp : ∀ b o, s1.heap.get? b = some o → h₁.get? b = some o := fun b o e => hsb.extBut b o (Nat.ne_of_lt (Heap.lt_size e)) (Heap.get?_push_of_some _ e)
    have J : Inv (lamCx X (X.A.deeper (envOfC qg sg s.heap.objs.size g cdg)) (envOfC qg sg s.heap.objs.size g cdg :: X.stack) s1 HZ E scope f c') [] σ HZ { s1 with heap := h₁, toks := s1.toks + ([] : List (Str × Value)).length } :=
      lam_start2 I L I1.env0 hr.hd un hns kp
    refine PySem.W.kla_codeExpr (wpAny_mono ((hbody _ _ s1 HZ (hr.deeper _)).run [] _ _ HZ Q J ht) (fun v s' hq => ?_) fun e s' hq => hq)
    obtain ⟨w', H', J', rv, q⟩ := hq
    exact ⟨w', H', J'.os, J'.bare, J'.base, J'.hok, rv, q⟩
  refine wpAny_call (codeAny_mono rc fun r s' hq => ?_)
  cases r with
  | error e => exact tk e s' (XE.of_call I1 hW hq)
  | ok fl =>
    cases fl with
    | ret u => exact I1.after hq
    | next => exact False.elim hq
    | brk => exact False.elim hq
    | cont => exact False.elim hq
end
def GivesToS (X : Cx) (Ng : List Str) (x : Str) (sg : Scope) (g : Addr) (cdg : Value) (bg : List Stmt) (a : Str) (q : Str) (TT : (XK → Hp → VK → Prop) → Hp → VK → Prop) : Prop :=
  ∀ (f c' : Addr) (s : Shared) (H : Hp) (Q : VK) (tl : XK → Hp → VK → Prop),
    (∀ (W : WX) (pn : List (Addr × Obj)) (xe : Value → Shared → Prop) (E : XK) (σ0 : L2.St) (p1 p2 : Pos), Takes ((cxOf C8.CX0 X.prog X.w X.K X.mg X.base Ng x sg g cdg X.A X.stack s H C8.E0).tr pn xe) W → (∀ cls d H', E cls d H' → W cls d σ0 H') →
      PE ((cxOf C8.CX0 X.prog X.w X.K X.mg X.base Ng x sg g cdg X.A X.stack s H C8.E0).tr pn xe) (.Call (.Name a p1) [] [] p2) (fun σZ HZ Q => σZ = σ0 ∧ σZ[0]? = some (some (.ref f)) ∧ HZ c' = some (CodeO c' q) ∧ tl E HZ Q)) →
    H c' = some (CodeO c' q) → TT tl H Q →
    ∃ t, PSs (cxOf C8.CX0 X.prog X.w X.K X.mg X.base Ng x sg g cdg X.A X.stack s H C8.E0).nox bg t ∧ t { nx := fun _ H' => Q .non H', rt := Q } (L2.start Ng [.ref f]) H
section
variable {X : Cx}
/-- x(lambda: body) -/
theorem pe_lamcallS {T : List (Addr × Str)} {TT : (XK → Hp → VK → Prop) → Hp → VK → Prop} {x a : Str} {g c P : Addr} {k : Nat} {pg : Arguments} {bg : List Stmt} {sg : Scope} {dV kV doc pm cdv ct oc : Value} {an od : Option Addr} {osl : Array (Option Value)} {Ng : List Str}
    {params : Arguments} {body : Expr} {scope : Scope} {t : XK → TE} {p lpos pos : Pos} (hg : Gl X x) (hm : X.mg x = some (.ref g)) (hk : PySem.W.keepIn X.K (.ref g) = true)
    (lk : X.K.lookup g = some ⟨oc, od, .func (PySem.W.fnOf x x pg bg sg dV kV doc pm an cdv ct), osl⟩) (hcg : PySem.W.codeIn X.K cdv x = true) (hb : L2.Binds X.K (PySem.W.fnOf x x pg bg sg dV kV doc pm an cdv ct) [a] []) (Sg : FnScope Ng [a] sg) (hNg : Ng[0]? = some a) (hva : Vis sg a)
    (hG : GivesToS X Ng x sg g cdv bg a (X.env.qual ++ "<lambda>") TT)
    (TB : TabB X.base X.mg c P) (hcode : X.env.code = .ref c) (hmT : (P, X.env.qual ++ "<lambda>") ∈ T) (hu : ∀ p ∈ T, p.1 = P → p.2 = X.env.qual ++ "<lambda>") (hr : Room (k + 2) X.A) (L : LamS X.env.scope scope) (hdef : defaultsOf params X.env = ([], []))
    (hbind : ∀ (q : Str) (cl : List (Str × Addr)) (pm cv ctv : Value), bindArgs (PySem.W.kla_fn "<lambda>" q params body scope cl pm cv ctv) ⟨[], []⟩ = pure [])
    (hbody : ∀ (A : Around) (outer : List Env) (s : Shared) (H : Hp) (E : XK) (f c' : Addr), Room k (A.deeper (lamEnv X scope s.heap.objs.size f c')) → PE (lamCx X A outer s H E scope f c') body (t E))
    (hdb : (x == ("__debug__" : Str)) = false := by decide) (hd : (a == ("__debug__" : Str)) = false := by decide) (hcd : (a == ("__classdict__" : Str)) = false := by decide) :
    PE X (.Call (.Name x p) [.Lambda params body scope lpos] [] pos) (tLam T TT t) := by
  refine ⟨fun pins s σ H Q I h => ?_⟩
  obtain ⟨hT, h⟩ := h
  refine wpAny_Call_Name_kw (ld_glob I hg hm ?_ hdb)
  refine PySem.W.callWith_K (h₀ := X.base) I.ok.mod.kin hk ?_ (by rfl) (by rfl)
  show wpAny _ _ (spliced ((false, eval (.Lambda params body scope lpos) X.env) :: backTo pos (starEach [] X.env))) _ _ s
  refine Calls.spliced_cons (lam_make2 I TB hcode hmT hu hT hdef (L.has I.ok) fun f c' pm' ctv H1 s' I1 eN T1 hf hfn hfr hco => ?_)
  refine Calls.spliced_nil ⟨I1.kIn, ?_⟩
  have rc : codeAny (model X.prog X.w) X.A (.call (.ref g) ⟨[.ref f], []⟩) (CR C8.CX0 X.stack X.prog X.w H1 s' Q C8.E0) s' := by
    refine run_ofS (N := Ng) (ps := [a]) (us := [.ref f]) (vs := [.ref f]) lk hcg Sg hr I1.env0 (hb s' [.ref f] I1.kIn rfl) (.cons rfl .nil) rfl fun hr' => ?_
    obtain ⟨t', ht', hq'⟩ := hG f c' s' H1 Q (fun E H' Q' => t E σ H' Q') (fun W pn xe E σ0 p1 p2 tk hW => pe_actS (i := 0) I1 L hf hfn hfr (hbind _ _ _ _ _) tk hW hr' (fun A outer s H hr2 => hbody A outer s H E f c' hr2) hNg hva hd hcd) hco (h H1 eN T1)
    exact ⟨t', ht'.nox, hq'⟩
  refine wpAny_call (codeAny_mono rc fun r s2 hq => ?_)
  cases r with
  | error e => exact (show False from hq).elim
  | ok fl =>
    cases fl with
    | ret u => exact I1.after hq
    | next => exact False.elim hq
    | brk => exact False.elim hq
    | cont => exact False.elim hq
end
end OGX
set_option Elab.async false
set_option linter.all false
set_option maxRecDepth 100000
set_option maxHeartbeats 4000000
namespace OGX
open PySem PySem.Spec PyProof.Rows L2 LamX
/-! a lambda handed through two calls -/
theorem un_in {fs : List Addr} {l : Addr} {H H1 H2 : Hp} {h h1 h2 : Heap} (a : Un fs [] H H1 h h1) (b : Un (l :: fs) [] H1 H2 h1 h2) (hl : h.objs.size ≤ l) : Un fs [] H H2 h h2 where
  keep := fun c ob q n hc hx => b.keep c ob (a.keep c ob q n hc hx) (a.free c ob q n hx) (fun z => by
    rcases List.mem_cons.mp z with z | z
    · rw [z] at q
      exact Nat.lt_irrefl _ (Nat.lt_of_lt_of_le (Heap.lt_size q) hl)
    · exact hc z) hx
  slot := fun c ob q n hc hx => by
    obtain ⟨sl, e1⟩ := a.slot c ob q n hc hx
    obtain ⟨sl', e2⟩ := b.any e1 (a.free c ob q n hx) hx
    exact ⟨sl', e2⟩
  free := fun c ob q n hx => by
    obtain ⟨o', e1⟩ := a.there c ob q hx
    exact b.free c o' e1 (a.free c ob q n hx) hx
  there := fun c ob q hx => by
    obtain ⟨o', e1⟩ := a.there c ob q hx
    exact b.there c o' e1 hx
  tups := fun c xs q => b.tups c xs (a.tups c xs q)
  frzs := fun c ob xs q => b.frzs c ob xs (a.frzs c ob xs q)
  tbls := fun c ps q => by
    obtain ⟨m1, e1⟩ := a.tbls c ps q
    obtain ⟨m2, e2⟩ := b.tbls c _ e1
    exact ⟨m1 ++ m2, by rw [e2, Array.append_assoc]⟩
/-- all states of a context lie behind this one of the maker's -/
def Reach (X : Cx) (H : Hp) (s : Shared) (Z : Cx) : Prop := ∀ (pn : List (Addr × Obj)) (xe : Value → Shared → Prop) (pinsZ : List (Addr × Obj)) (σZ : L2.St) (HZ : Hp) (sZ : Shared), Inv (Z.tr pn xe) pinsZ σZ HZ sZ → Un (frs X.stack) [] H HZ s.heap sZ.heap
theorem reach1 {CXg : CXT} {X : Cx} {Ng : List Str} {qg : Str} {sg : Scope} {g : Addr} {cdg : Value} {s : Shared} {H : Hp} {Eg : XK} : Reach X H s (cxOf CXg X.prog X.w X.K X.mg X.base Ng qg sg g cdg X.A X.stack s H Eg) := fun _ _ _ _ _ _ I => I.base
theorem reach2 {CXh : CXT} {X : Cx} {P : Program} {w : World} {K : PySem.W.Frag} {mg : Str → Option Value} {base : Heap} {Nh : List Str} {qg qh : Str} {sg sh : Scope} {g gh : Addr} {cdg cdh : Value} {Ah : Around} {outer : List Env} {s s0 s1 : Shared} {H0 H1 : Hp} {Eh : XK}
    (hs : X.stack = outer) (un : Un (frs X.stack) [] H0 H1 s0.heap s1.heap) (hl : s0.heap.objs.size ≤ s.heap.objs.size) : Reach X H0 s0 (cxOf CXh P w K mg base Nh qh sh gh cdh Ah (envOfC qg sg s.heap.objs.size g cdg :: outer) s1 H1 Eh) := fun _ _ _ _ _ _ I => by
  have b : Un (frs (envOfC qg sg s.heap.objs.size g cdg :: outer)) [] H1 _ s1.heap _ := I.base
  have e : frs (envOfC qg sg s.heap.objs.size g cdg :: outer) = s.heap.objs.size :: frs outer := rfl
  rw [e, ← hs] at b
  exact un_in un b hl
section
variable {X : Cx} {pins : List (Addr × Obj)} {σ : L2.St} {H HZ : Hp} {s s1 : Shared}
/-- x() in a def, however deep, that got the lambda -/
theorem pe_actR {CXg : CXT} {Eg : XK} {Ng : List Str} {qg : Str} {sg : Scope} {g f c' : Addr} {cdg pm ctv : Value} {params : Arguments} {body : Expr} {scope : Scope} {k i : Nat} {a : Str} {pn : List (Addr × Obj)} {xe : Value → Shared → Prop} {W : WX} {E : XK} {tb : TE} {p1 p2 : Pos} {σ0 : L2.St} {Az : Around} {oz : List Env} {sz : Shared} {Hz : Hp}
    (I : Inv X pins σ H s) (L : LamS X.env.scope scope) (hf : s.heap.get? f = some (PySem.W.kla_obj "<lambda>" (X.env.qual ++ "<lambda>") params body scope (cloFrom X.env.cells scope.names []) pm c' ctv)) (hfn : H f = none) (hfr : f ∉ frs X.stack)
    (hbind : bindArgs (PySem.W.kla_fn "<lambda>" (X.env.qual ++ "<lambda>") params body scope (cloFrom X.env.cells scope.names []) pm (.ref c') ctv) ⟨[], []⟩ = pure [])
    (re : Reach X H s (cxOf CXg X.prog X.w X.K X.mg X.base Ng qg sg g cdg Az oz sz Hz Eg))
    (tk : Takes ((cxOf CXg X.prog X.w X.K X.mg X.base Ng qg sg g cdg Az oz sz Hz Eg).tr pn xe) W) (hW : ∀ cls d H', E cls d H' → W cls d σ0 H') (hr : Room (k + 1) (Az.deeper (envOfC qg sg sz.heap.objs.size g cdg)))
    (hbody : ∀ (A : Around) (outer : List Env) (s : Shared) (H : Hp), Room k (A.deeper (lamEnv X scope s.heap.objs.size f c')) → PE (lamCx X A outer s H E scope f c') body tb)
    (hN : Ng[i]? = some a) (hv : Vis sg a) (hd : (a == ("__debug__" : Str)) = false := by decide) (hcd : (a == ("__classdict__" : Str)) = false := by decide) :
    PE ((cxOf CXg X.prog X.w X.K X.mg X.base Ng qg sg g cdg Az oz sz Hz Eg).tr pn xe) (.Call (.Name a p1) [] [] p2)
      (fun σZ HZ Q => σZ = σ0 ∧ σZ[i]? = some (some (.ref f)) ∧ HZ c' = some (CodeO c' (X.env.qual ++ "<lambda>")) ∧ tb σ HZ Q) := by
  refine ⟨fun pinsZ sZ σZ HZ Q IZ h => ?_⟩
  obtain ⟨e0, hs, hc, ht⟩ := h
  subst e0
  refine wpAny_Call_Name_kw (thn ((pe_var (pos := p1) (i := i) hN hv hd hcd).run pinsZ sZ σZ HZ (fun v H1 => v = .ref f ∧ H1 = HZ) IZ ⟨.ref f, hs, rfl, rfl⟩) fun u s1 ⟨v, H1, I1, r1, q1⟩ => ?_)
  obtain ⟨ev, eH⟩ := q1
  subst ev
  rw [eH] at I1
  obtain rfl : u = Value.ref f := r1
  have un : Un (frs X.stack) [] H HZ s.heap s1.heap := re _ _ _ _ _ _ I1
  have of1 : s1.heap.get? f = some (PySem.W.kla_obj "<lambda>" (X.env.qual ++ "<lambda>") params body scope (cloFrom X.env.cells scope.names []) pm c' ctv) := un.keep f _ hf hfn hfr (fun z => nomatch (show f ∈ ([] : List Addr) from z))
  refine PySem.W.callWith_F0 ⟨_, _, _, _, of1⟩ ?_
  obtain ⟨⟨oc, vs, t, hoc, hdc, hvc⟩, _, _⟩ := I1.hok c' _ hc
  have rc : codeAny (model X.prog X.w) (Az.deeper (envOfC qg sg sz.heap.objs.size g cdg)) (.call (.ref f) ⟨[], []⟩) (CR (L2.CX X.prog X.w) (envOfC qg sg sz.heap.objs.size g cdg :: oz) X.prog X.w HZ s1 Q E) s1 := by
    refine PySem.W.kla_callFunE hr.depth of1 rfl L.co L.gen rfl ⟨c', oc, vs, t, rfl, hoc, hdc, hvc⟩ ?_
    rw [hbind]
    refine wpAny_pure (wpAny_newFunctionEnv (fun y hy => (L.own y hy).2) (fun y hy => absurd hy (by simp)) (fun h₁ hns hsb => ⟨I1.nolimit.fresh _ hsb, ?_⟩) L.kind)
    show codeAny _ _ (.expr body (lamEnv X scope s1.heap.objs.size f c')) _ _
    have kp : ∀ b o, s1.heap.get? b = some o → h₁.get? b = some o := fun b o e => hsb.extBut b o (Nat.ne_of_lt (Heap.lt_size e)) (Heap.get?_push_of_some _ e)
    have J : Inv (lamCx X (Az.deeper (envOfC qg sg sz.heap.objs.size g cdg)) (envOfC qg sg sz.heap.objs.size g cdg :: oz) s1 HZ E scope f c') [] σ HZ { s1 with heap := h₁, toks := s1.toks + ([] : List (Str × Value)).length } :=
      lam_start2 I L I1.env0 hr.hd un hns kp
    refine PySem.W.kla_codeExpr (wpAny_mono ((hbody _ _ s1 HZ (hr.deeper _)).run [] _ _ HZ Q J ht) (fun v s' hq => ?_) fun e s' hq => hq)
    obtain ⟨w', H', J', rv, q⟩ := hq
    exact ⟨w', H', J'.os, J'.bare, J'.base, J'.hok, rv, q⟩
  refine wpAny_call (codeAny_mono rc fun r s' hq => ?_)
  cases r with
  | error e => exact tk e s' (XE.of_call I1 hW hq)
  | ok fl =>
    cases fl with
    | ret u => exact I1.after hq
    | next => exact False.elim hq
    | brk => exact False.elim hq
    | cont => exact False.elim hq
end
/-- the def that calls what it got, entered from anywhere -/
def GivesToA (P : Program) (w : World) (K : PySem.W.Frag) (mg : Str → Option Value) (base : Heap) (Ng : List Str) (x : Str) (sg : Scope) (g : Addr) (cdg : Value) (bg : List Stmt) (a : Str) (q : Str) (TT : (XK → Hp → VK → Prop) → Hp → VK → Prop) : Prop :=
  ∀ (A : Around) (outer : List Env) (f c' : Addr) (s : Shared) (H : Hp) (Q : VK) (tl : XK → Hp → VK → Prop),
    (∀ (W : WX) (pn : List (Addr × Obj)) (xe : Value → Shared → Prop) (E : XK) (σ0 : L2.St) (p1 p2 : Pos), Takes ((cxOf C8.CX0 P w K mg base Ng x sg g cdg A outer s H C8.E0).tr pn xe) W → (∀ cls d H', E cls d H' → W cls d σ0 H') →
      PE ((cxOf C8.CX0 P w K mg base Ng x sg g cdg A outer s H C8.E0).tr pn xe) (.Call (.Name a p1) [] [] p2) (fun σZ HZ Q => σZ = σ0 ∧ σZ[0]? = some (some (.ref f)) ∧ HZ c' = some (CodeO c' q) ∧ tl E HZ Q)) →
    H c' = some (CodeO c' q) → TT tl H Q →
    ∃ t, PSs (cxOf C8.CX0 P w K mg base Ng x sg g cdg A outer s H C8.E0).nox bg t ∧ t { nx := fun _ H' => Q .non H', rt := Q } (L2.start Ng [.ref f]) H
theorem GivesToA.here {X : Cx} {Ng : List Str} {x : Str} {sg : Scope} {g : Addr} {cdg : Value} {bg : List Stmt} {a q : Str} {TT : (XK → Hp → VK → Prop) → Hp → VK → Prop} (h : GivesToA X.prog X.w X.K X.mg X.base Ng x sg g cdg bg a q TT) : GivesToS X Ng x sg g cdg bg a q TT := fun f c' s H Q tl => h X.A X.stack f c' s H Q tl
/-- the def that hands what it got to another one: x(a) told -/
def Hands (kk : Nat) (P : Program) (w : World) (K : PySem.W.Frag) (mg : Str → Option Value) (base : Heap) (Ng : List Str) (x : Str) (sg : Scope) (g : Addr) (cdg : Value) (bg : List Stmt) (y a : Str) (q : Str) (T1 : (XK → Hp → VK → Prop) → Hp → VK → Prop) (TT : (XK → Hp → VK → Prop) → List V → Hp → VK → Prop) : Prop :=
  ∀ (A : Around) (outer : List Env) (f c' : Addr) (s : Shared) (H : Hp) (vs : List V) (Q : VK) (tl : XK → Hp → VK → Prop), A.guards = some [] → Room kk (A.deeper (envOfC x sg s.heap.objs.size g cdg)) →
    (∀ (p1 p2 p3 : Pos), PE (cxOf C8.CX0 P w K mg base Ng x sg g cdg A outer s H C8.E0).nox (.Call (.Name y p1) [.Name a p2] [] p3) (fun σY HY Q => σY[0]? = some (some (.ref f)) ∧ HY c' = some (CodeO c' q) ∧ T1 tl HY Q)) →
    H c' = some (CodeO c' q) → TT tl vs H Q →
    ∃ t, PSs (cxOf C8.CX0 P w K mg base Ng x sg g cdg A outer s H C8.E0).nox bg t ∧ t { nx := fun _ H' => Q .non H', rt := Q } (L2.start Ng (.ref f :: vs)) H
/-- slots, the table, the code's address -/
def tLam2 (T : List (Addr × Str)) (q : Str) (TT : (XK → Hp → VK → Prop) → List V → Hp → VK → Prop) (t : XK → TE) (ta : TA) : TE := fun σ H Q => Tabs T H ∧ ∀ H1 c', ExtN H H1 → Tabs T H1 → H1 c' = some (CodeO c' q) →
  ta σ H1 (fun vs H2 => H2 c' = some (CodeO c' q) ∧ TT (fun E H' Q' => t E σ H' Q') vs H2 Q)
section
variable {X : Cx}
/-- x(lambda: body, e, ..), where x hands the lambda to y -/
theorem pe_lamhand {T : List (Addr × Str)} {T1 : (XK → Hp → VK → Prop) → Hp → VK → Prop} {TT : (XK → Hp → VK → Prop) → List V → Hp → VK → Prop} {x y a b : Str} {g gy c P : Addr} {k : Nat} {pg py : Arguments} {bg by_ : List Stmt} {sg sy : Scope} {dV kV doc pm cdv ct oc dVy kVy docy pmy cdy cty ocy : Value} {an od any ody : Option Addr} {osl osly : Array (Option Value)} {Ng Ny : List Str} {pss : List Str}
    {params : Arguments} {body : Expr} {scope : Scope} {es : List Expr} {t : XK → TE} {ta : TA} {p lpos pos : Pos} (hg : Gl X x) (hm : X.mg x = some (.ref g)) (hk : PySem.W.keepIn X.K (.ref g) = true)
    (lk : X.K.lookup g = some ⟨oc, od, .func (PySem.W.fnOf x x pg bg sg dV kV doc pm an cdv ct), osl⟩) (hcg : PySem.W.codeIn X.K cdv x = true) (hb : L2.Binds X.K (PySem.W.fnOf x x pg bg sg dV kV doc pm an cdv ct) (b :: pss) []) (Sg : FnScope Ng (b :: pss) sg) (hNg : Ng[0]? = some b) (hva : Vis sg b)
    (hG : Hands (k + 2) X.prog X.w X.K X.mg X.base Ng x sg g cdv bg y b (X.env.qual ++ "<lambda>") T1 TT)
    (hl : ∀ tl vs H Q, TT tl vs H Q → vs.length = pss.length)
    (hgy : sg.names.lookup y = some .globalImplicit) (hmy : X.mg y = some (.ref gy)) (hky : PySem.W.keepIn X.K (.ref gy) = true)
    (lky : X.K.lookup gy = some ⟨ocy, ody, .func (PySem.W.fnOf y y py by_ sy dVy kVy docy pmy any cdy cty), osly⟩) (hcy : PySem.W.codeIn X.K cdy y = true) (hby : L2.Binds X.K (PySem.W.fnOf y y py by_ sy dVy kVy docy pmy any cdy cty) [a] []) (Sy : FnScope Ny [a] sy) (hNy : Ny[0]? = some a) (hvy : Vis sy a)
    (hGy : GivesToA X.prog X.w X.K X.mg X.base Ny y sy gy cdy by_ a (X.env.qual ++ "<lambda>") T1)
    (TB : TabB X.base X.mg c P) (hcode : X.env.code = .ref c) (hmT : (P, X.env.qual ++ "<lambda>") ∈ T) (hu : ∀ p ∈ T, p.1 = P → p.2 = X.env.qual ++ "<lambda>") (hr : Room (k + 3) X.A) (L : LamS X.env.scope scope) (hdef : defaultsOf params X.env = ([], []))
    (hbind : ∀ (q : Str) (cl : List (Str × Addr)) (pm cv ctv : Value), bindArgs (PySem.W.kla_fn "<lambda>" q params body scope cl pm cv ctv) ⟨[], []⟩ = pure [])
    (hbody : ∀ (A : Around) (outer : List Env) (s : Shared) (H : Hp) (E : XK) (f c' : Addr), Room k (A.deeper (lamEnv X scope s.heap.objs.size f c')) → PE (lamCx X A outer s H E scope f c') body (t E))
    (hes : PA X es ta) (hgu : X.A.guards = some [])
    (hdb : (x == ("__debug__" : Str)) = false := by decide) (hdy : (y == ("__debug__" : Str)) = false := by decide) (hd : (a == ("__debug__" : Str)) = false := by decide) (hcd : (a == ("__classdict__" : Str)) = false := by decide) (hd2 : (b == ("__debug__" : Str)) = false := by decide) (hcd2 : (b == ("__classdict__" : Str)) = false := by decide)
    (hse : starEach (.Lambda params body scope lpos :: es) X.env = (false, eval (.Lambda params body scope lpos) X.env) :: starEach es X.env := by rfl) (hpl : (backTo pos (starEach es X.env)).any (·.1) = false := by rfl) :
    PE X (.Call (.Name x p) (.Lambda params body scope lpos :: es) [] pos) (tLam2 T (X.env.qual ++ "<lambda>") TT t ta) := by
  refine ⟨fun pins s σ H Q I h => ?_⟩
  obtain ⟨hT, h⟩ := h
  refine wpAny_Call_Name_kw (ld_glob I hg hm ?_ hdb)
  refine PySem.W.callWith_K (h₀ := X.base) I.ok.mod.kin hk ?_ hse hpl
  rw [hse]
  show wpAny _ _ (spliced ((false, eval (.Lambda params body scope lpos) X.env) :: backTo pos (starEach es X.env))) _ _ s
  refine Calls.spliced_cons (lam_make2 I TB hcode hmT hu hT hdef (L.has I.ok) fun f c' pm' ctv H1 s' I1 eN T1' hf hfn hfr hco => ?_)
  have nfL : f ≠ X.env.locals ∧ f ∉ X.fs := by
    refine ⟨fun z => ?_, fun z => hfr ?_⟩
    · obtain ⟨m, hn, _⟩ := I1.loc
      obtain ⟨ob, es', ep, ho, r⟩ := hn
      rw [z] at hf
      rw [ho] at hf
      have := congrArg Obj.data (Option.some.inj hf)
      rw [r.1] at this
      cases this
    · rcases I1.ok.stk with e | ⟨e, e2⟩
      · rw [e]
        exact z
      · rw [e]
        unfold frs at z ⊢
        rw [List.filterMap_cons, e2]
        exact List.mem_cons_of_mem _ z
  have Ip : Inv X ((f, PySem.W.kla_obj "<lambda>" (X.env.qual ++ "<lambda>") params body scope (cloFrom X.env.cells scope.names []) pm' c' ctv) :: pins) σ H1 s' := I1.pins_of fun p hp => by
    rcases List.mem_cons.mp hp with rfl | hp
    · exact ⟨hf, hfn, nfL.1, nfL.2, fun v z => by simp [PySem.W.kla_obj] at z⟩
    · exact I1.pin p (List.mem_append_right _ hp)
  refine thn (hes.run pos _ s' σ H1 _ Ip (h H1 c' eN T1' hco)) fun us s2 ⟨vs, H2, J, r, hc2, q⟩ => ?_
  obtain ⟨hf2, hfn2, _⟩ := J.pin _ (List.mem_append_right _ List.mem_cons_self)
  have I2 : Inv X pins σ H2 s2 := J.pins_of fun p hp => J.pin p (List.mem_append_right _ (List.mem_cons_of_mem _ hp))
  refine ⟨I2.kIn, ?_⟩
  have rc : codeAny (model X.prog X.w) X.A (.call (.ref g) ⟨.ref f :: us, []⟩) (CR C8.CX0 X.stack X.prog X.w H2 s2 Q C8.E0) s2 := by
    refine run_ofS (N := Ng) (ps := b :: pss) (us := .ref f :: us) (vs := .ref f :: vs) lk hcg Sg hr I2.env0 (by
        have hb' := hb s2 (.ref f :: us) I2.kIn (by rw [List.append_nil, List.length_cons, ← r.length, hl _ _ _ _ q]; rfl)
        rwa [List.append_nil] at hb') (.cons rfl r) (by rw [List.length_cons, hl _ _ _ _ q, List.length_cons]) fun hr' => ?_
    have hpass : ∀ (p1 p2 p3 : Pos), PE (cxOf C8.CX0 X.prog X.w X.K X.mg X.base Ng x sg g cdv X.A X.stack s2 H2 C8.E0).nox (.Call (.Name y p1) [.Name b p2] [] p3) (fun σY HY Q => σY[0]? = some (some (.ref f)) ∧ HY c' = some (CodeO c' (X.env.qual ++ "<lambda>")) ∧ T1 (fun E H' Q' => t E σ H' Q') HY Q) := by
      intro p1 p2 p3
      refine ⟨fun pinsY sY σY HY QY IY hY => ?_⟩
      obtain ⟨y1, y2, y3⟩ := hY
      have hgl : Gl (cxOf C8.CX0 X.prog X.w X.K X.mg X.base Ng x sg g cdv X.A X.stack s2 H2 C8.E0).nox y := hgy
      refine wpAny_Call_Name_kw (ld_glob IY hgl hmy ?_ hdy)
      have pa : PA (cxOf C8.CX0 X.prog X.w X.K X.mg X.base Ng x sg g cdv X.A X.stack s2 H2 C8.E0).nox [.Name b p2] _ := pa_cons (pe_var (pos := p2) (i := 0) hNg hva hd2 hcd2) pa_nil
      refine PySem.W.callWith_K (h₀ := X.base) IY.ok.mod.kin hky (thn (pa.run p3 pinsY sY σY HY (fun vs H1 => vs = [.ref f] ∧ H1 = HY) IY ⟨.ref f, y1, rfl, rfl⟩) fun us1 s3 ⟨vs1, H3, I3, r3, q3⟩ => ?_) (by rfl) (by rfl)
      obtain ⟨e1, e2⟩ := q3
      subst e1
      rw [e2] at I3
      refine ⟨I3.kIn, ?_⟩
      have un : Un (frs X.stack) [] H2 HY s2.heap s3.heap := I3.base
      have rc2 : codeAny (model X.prog X.w) (X.A.deeper (envOfC x sg s2.heap.objs.size g cdv)) (.call (.ref gy) ⟨us1, []⟩) (CR C8.CX0 (envOfC x sg s2.heap.objs.size g cdv :: X.stack) X.prog X.w HY s3 QY C8.E0) s3 := by
        refine run_ofS (N := Ny) (ps := [a]) (us := us1) (vs := [.ref f]) lky hcy Sy hr' I3.env0 (by
          have hb' := hby s3 us1 I3.kIn (by rw [List.append_nil, ← r3.length]; rfl)
          rwa [List.append_nil] at hb') r3 rfl fun hr2 => ?_
        obtain ⟨t', ht', hq'⟩ := hGy (X.A.deeper (envOfC x sg s2.heap.objs.size g cdv)) (envOfC x sg s2.heap.objs.size g cdv :: X.stack) f c' s3 HY QY (fun E H' Q' => t E σ H' Q') (fun W pn xe E σ0 p1 p2 tk hW => pe_actR (i := 0) I2 L hf2 hfn2 hfr (hbind _ _ _ _ _) (reach2 rfl un (Nat.le_refl _)) tk hW hr2 (fun A outer s H hr3 => hbody A outer s H E f c' hr3) hNy hvy hd hcd) y2 y3
        exact ⟨t', ht'.nox, hq'⟩
      refine wpAny_call (codeAny_mono rc2 fun r s4 hq => ?_)
      cases r with
      | error e => exact (show False from hq).elim
      | ok fl =>
        cases fl with
        | ret u => exact I3.after hq
        | next => exact False.elim hq
        | brk => exact False.elim hq
        | cont => exact False.elim hq
    obtain ⟨t', ht', hq'⟩ := hG X.A X.stack f c' s2 H2 vs Q (fun E H' Q' => t E σ H' Q') hgu hr' hpass hc2 q
    exact ⟨t', ht'.nox, hq'⟩
  refine wpAny_call (codeAny_mono rc fun r s3 hq => ?_)
  cases r with
  | error e => exact (show False from hq).elim
  | ok fl =>
    cases fl with
    | ret u => exact I2.after hq
    | next => exact False.elim hq
    | brk => exact False.elim hq
    | cont => exact False.elim hq
end
section
variable {P : Program} {w : World} {K : PySem.W.Frag} {mg : Str → Option Value} {base : Heap}
theorem fnG_of {k : Nat} {f : Addr} {name qual : Str} {params : Arguments} {body : List Stmt} {scope : Scope} {dV kV doc pm cdv ct oc : Value} {an od : Option Addr} {osl : Array (Option Value)} {N ps : List Str} {sp : Sp}
    (lk : K.lookup f = some ⟨oc, od, .func (PySem.W.fnOf name qual params body scope dV kV doc pm an cdv ct), osl⟩) (hcd : PySem.W.codeIn K cdv qual = true) (S : FnScope N ps scope) (len : ∀ vs H Q E, sp vs H Q E → vs.length = ps.length)
    (hbody : ∀ (A : Around) (outer : List Env) (s : Shared) (H : Hp) (vs : List V) (Q : VK) (E : XK), A.guards = some [] → Room k (A.deeper (envOfC qual scope s.heap.objs.size f cdv)) → sp vs H Q E →
      ∃ t, PSs (cxOf L2.CX0 P w K mg base N qual scope f cdv A outer s H E).nox body t ∧ t { nx := fun _ H' => Q .non H', rt := Q } (L2.start N vs) H) :
    FnG P w K mg base (k + 1) f (PySem.W.fnOf name qual params body scope dV kV doc pm an cdv ct) ps sp := by
  refine ⟨len, fun A outer s H args us vs Q E hg hr e0 hb r q => ?_⟩
  exact run_ofS (E := E) lk hcd S hr e0 hb r (len _ _ _ _ q) fun hr' => by
    obtain ⟨t, h1, h2⟩ := hbody A outer s H vs Q E hg hr' q
    exact ⟨t, h1.nox, h2⟩
end
end OGX
set_option Elab.async false
set_option linter.all false
set_option maxRecDepth 100000
set_option maxHeartbeats 4000000
namespace OGX
open PySem PySem.Spec PyProof.Rows L2
section
variable {X : Cx}
/-- repr of data at any depth -/
def rReprP (K : PySem.W.Frag) : List V → Hp → VK → Prop := fun xs H Q => ∃ (v : V) (d : PyData), xs = [v] ∧ Dp K H v d ∧ d.showable = true ∧ d.hasDict = false ∧ d.depth ≤ 60 ∧ d.shown.length ≤ sizeLine ∧ Q (.str d.shown) H
theorem call_reprP (hg : X.A.guards = some []) (hu : X.A.units + 64 < cLine) : CallR X (.builtin "repr") (rReprP X.K) := by
  intro pins s σ H xs us Q I r h
  obtain ⟨v, d, rfl, e, hs, hd, hp, hz, q⟩ := h
  obtain ⟨u, rfl, ru⟩ := vals1 r
  obtain ⟨as, R⟩ := Dp.reads I d v u e ru
  exact repr_go hg hu I R hs hd hp hz q
/-- x not in t, t a tuple of data -/
def rNotInT (K : PySem.W.Frag) : R2 := fun x y H Q => ∃ d ds, Dp K H x d ∧ Dp K H y (.tuple ds) ∧ SeqAt.shaped d = true ∧ SeqAt.shaped (.tuple ds) = true ∧ Q (.bl (!ds.any fun z => PyData.eqv z d)) H
theorem op_notInT (hu : X.A.units + 65 < cLine) : OpR X (compareOp .NotIn) (rNotInT X.K) := by
  intro pins s σ H x y v u Q I rx ry h
  obtain ⟨d, ds, hd, he, sd, se, q⟩ := h
  obtain ⟨as, r1⟩ := Dp.reads I d x v hd rx
  obtain ⟨bs, r2⟩ := Dp.reads I (.tuple ds) y u he ry
  exact SeqAt.notIn_tuple_reads r2 r1 (SeqAt.canLay_of_shaped se) (SeqAt.canLay_of_shaped sd) (PyProof.Rows.room_in_shaped sd hu) ⟨.bl _, H, I, rfl, q⟩
/-- what sorted makes of data -/
def sortD (ds : List PyData) : List PyData := ds.mergeSort (PySem.W.dataLe false id)
def rSortD (K : PySem.W.Frag) : List V → Hp → VK → Prop := fun vs H Q => ∃ (a : Addr) (xs : List V) (ds : List PyData), vs = [V.ref a] ∧ SqL K H a xs ∧ DpAll K H xs ds ∧ PySem.W.AllAlike ds ∧ PySem.W.Sortable ds ∧ (∀ d ∈ ds, d.depth ≤ 50) ∧
  ∀ (ys : List V) (p : Addr), DpAll K H ys (sortD ds) → H p = none → Q (.ref p) (upd H p (.lst ys))
theorem each_of {K : PySem.W.Frag} {H : Hp} : ∀ {xs : List V} {us : List Value} {ds : List PyData}, Vals xs us → DpAll K H xs ds → PySem.W.EachIs (fun v d => ∃ x, RelV x v ∧ Dp K H x d) us ds
  | _, _, _, .nil, .nil => .nil
  | _, _, _, .cons r t, .cons p q => .cons ⟨_, r, p⟩ (each_of t q)
theorem of_each {K : PySem.W.Frag} {H : Hp} : ∀ {us : List Value} {ds : List PyData}, PySem.W.EachIs (fun v d => ∃ x, RelV x v ∧ Dp K H x d) us ds → ∃ ys, Vals ys us ∧ DpAll K H ys ds
  | _, _, .nil => ⟨[], .nil, .nil⟩
  | _, _, .cons ⟨x, r, p⟩ t => by
    obtain ⟨ys, a, b⟩ := of_each t
    exact ⟨x :: ys, .cons r a, .cons p b⟩
theorem cr_sortD (hu : X.A.units + 64 < cLine) : CallR X (.builtin "sorted") (rSortD X.K) := by
  intro pins s σ H vs us Q I r h
  obtain ⟨a, xs, ds, rfl, hs, hd, hal, hk, hp, q⟩ := h
  obtain ⟨its, rv, hl, hz⟩ := I.list hs
  rw [Vals.ref1 r]
  have e := each_of rv hd
  have hlen : ds.length = its.length := (PySem.W.EachIs.length e).symm
  refine PySem.W.sorted_data (enc := id) hl.isList e (e.mono fun v d ⟨x, rx, dx⟩ => Dp.reads I d x v dx rx) (by rw [List.map_id]; exact hal) (by rw [List.map_id]; exact hk) (by rw [hlen, ← rv.length]; exact hz) (fun d hm => by have := hp d hm; show X.A.units + 2 + d.depth < cLine; omega) fun out h1 h2 => ?_
  obtain ⟨ep, he⟩ := PyProof.Rows.sortedAll_at s.heap its out.toArray
  obtain ⟨ys, ry, dy⟩ := of_each h2
  refine ⟨.ref _, upd H (s.heap.objs.size + 1) (.lst ys), I.laid (t' := s.toks) (fun _ _ => PyProof.Rows.sortedAll_old) (Nat.le_succ _) ⟨?_, out, ep, ry, he⟩, rfl, q ys _ dy (I.hok.fresh (Nat.le_succ _))⟩
  rw [ry.length, h1, hlen, ← rv.length]
  exact hz
end
section
variable {X : Cx} {CX : CXT} {k : Nat} {f : Addr} {fd : FuncData} {ps ks : List Str} {sp : Sp} {E : XK} {x : Str} {p pos : Pos} {kws : List Keyword} {tk : TA} {g : List Value → List Value → List Value} {gV : List V → List V → List V}
/-- f(k = v, ..) -/
theorem pe_callK0 (F : FnOk X.prog X.w X.K X.mg X.base CX k f fd ps sp) (hr : Room k X.A) (hg : Gl X x) (hm : X.mg x = some (.ref f)) (hk : PySem.W.keepIn X.K (.ref f) = true) (hb : KBinds X.K fd ps ks g gV) (hx : Passes CX X E) (hkw : PK X kws tk)
    (hall : (backToKw pos (keywordEach kws X.env)).all (·.1.isSome) = true := by rfl) (hks : (backToKw pos (keywordEach kws X.env)).filterMap (·.1) = ks := by rfl) (hdb : (x == ("__debug__" : Str)) = false := by decide)
    (hpl : ((backTo pos (starEach [] X.env)).any (·.1) || (backToKw pos (keywordEach kws X.env)).any (·.1.isNone)) = false := by rfl) : PE X (.Call (.Name x p) [] kws pos) (tCallK sp gV E tNil tk) := by
  refine ⟨fun pins s σ H Q I h => wpAny_Call_Name_kw (ld_glob I hg hm ?_ hdb)⟩
  refine PySem.W.callWith_KW0 (h₀ := X.base) I.ok.mod.kin hk hall (thn (hkw.run pos pins s σ H _ I h) fun ws s2 ⟨zs, H2, I2, rz, q2⟩ => ⟨I2.kIn, ?_⟩) hpl
  rw [hks]
  exact run_fnk (us := []) (vs := []) F hr hb hx I2 .nil rz q2
end
end OGX
set_option Elab.async false
set_option linter.all false
set_option maxRecDepth 100000
set_option maxHeartbeats 4000000
namespace OGX
open PySem PySem.Spec PyProof.Rows L2
/-- data that a law may hand about: small dicts at the top, else None, truth values, ints, texts, lists and tuples of these -/
def ShD (K : PySem.W.Frag) (H : Hp) (v : V) (d : PyData) : Prop := (Dp K H v d ∧ d.hasDict = false) ∨ (∃ a, v = .ref a ∧ ((H a = some (.dK []) ∧ d = .dict []) ∨ ∃ (k : Str) (i : Int), H a = some (.dK [(.inr k, .int i)]) ∧ d = .dict [(.str k, .int i)]))
section
variable {X : Cx}
theorem dict_reads {pins : List (Addr × Obj)} {σ : L2.St} {H : Hp} {s : Shared} {a : Addr} (I : Inv X pins σ H s) {kvs : List (Key × V)} (h : H a = some (.dK kvs)) {d : PyData} (hd : (kvs = [] ∧ d = .dict []) ∨ ∃ (k : Str) (i : Int), kvs = [(.inr k, .int i)] ∧ d = .dict [(.str k, .int i)]) : a ≠ sysModules ∧ Reads s.heap (.ref a) d [a] := by
  obtain ⟨_, e, vs, kv, o, es, ep, g, x, hd', _, pr, _⟩ := (show ObjOk X.prog X.w H s.heap a (.dK kvs) from I.hok a _ h)
  refine ⟨fun z => by rw [z] at e; simp at e, ?_⟩
  rcases hd with ⟨rfl, rfl⟩ | ⟨k, i, rfl, rfl⟩
  · cases kv
    have el : es.toList = [] := by
      generalize es.toList = l at pr
      cases pr
      rfl
    exact .dict (as := []) (bs := []) g x.1 hd' (by rw [el]; exact .nil) (by rw [el]; exact .nil)
  · cases kv with
    | cons q t =>
      cases t
      obtain ⟨q1, t2, q2⟩ := q
      have el : ∃ en : DictEntry, es.toList = [en] ∧ keyIs (.inr k) en.key = true ∧ en.val = .int i t2 := by
        generalize es.toList = l at pr
        cases pr with
        | cons hk hv r =>
          cases r
          refine ⟨_, rfl, ?_, ?_⟩
          · have hk : keyIs _ _ = true := hk
            rw [← q1] at hk
            exact hk
          · exact hv.trans q2
      obtain ⟨en, el, ek, ev⟩ := el
      obtain ⟨t3, e3⟩ := Value.isStrOf_shape (x := k) (v := en.key) ek
      refine .dict (as := []) (bs := []) g x.1 hd' ?_ ?_
      · rw [el]
        show ReadsAll s.heap [en.key] [.str k] []
        rw [e3]
        exact .cons (.str k t3) .nil
      · rw [el]
        show ReadsAll s.heap [en.val] [.int i] []
        rw [ev]
        exact .cons (.int i t2) .nil
def rReprV (K : PySem.W.Frag) : List V → Hp → VK → Prop := fun xs H Q => ∃ (v : V) (d : PyData), xs = [v] ∧ ShD K H v d ∧ d.showable = true ∧ d.depth ≤ 60 ∧ d.shown.length ≤ sizeLine ∧ Q (.str d.shown) H
theorem call_reprV (hg : X.A.guards = some []) (hu : X.A.units + 64 < cLine) : CallR X (.builtin "repr") (rReprV X.K) := by
  intro pins s σ H xs us Q I r h
  obtain ⟨v, d, rfl, e, hs, hp, hz, q⟩ := h
  obtain ⟨u, rfl, ru⟩ := vals1 r
  rcases e with ⟨e, hd⟩ | ⟨a, rfl, e⟩
  · obtain ⟨as, R⟩ := Dp.reads I d v u e ru
    exact repr_go hg hu I R hs hd hp hz q
  · cases ru
    obtain ⟨ns, R⟩ : a ≠ sysModules ∧ Reads s.heap (.ref a) d [a] := by
      rcases e with ⟨h, rfl⟩ | ⟨k, i, h, rfl⟩
      · exact dict_reads I h (.inl ⟨rfl, rfl⟩)
      · exact dict_reads I h (.inr ⟨k, i, rfl, rfl⟩)
    refine repr_of_reads' R hs (fun _ z => ns (List.mem_singleton.mp z).symm) hg (by omega) (fun _ _ z => z) (fun h' t tk k => ⟨.str d.shown, H, I.kept k, ⟨_, rfl⟩, q⟩) hz
end
end OGX
set_option Elab.async false
set_option linter.all false
set_option maxRecDepth 100000
set_option maxHeartbeats 4000000
namespace OGX
open PySem PySem.Spec PyProof.Rows L2 LamX
/-- e.f, e a kept exception of a class that is told in the reading -/
def tXvA (K : PySem.W.Frag) (f : Str) (te : TE) : TE := fun σ H Q => te σ H fun x H1 => ∃ (C a dd : Addr) (fs : List (Str × V)) (v : V), x = .ref a ∧ H1 a = some (ExV (.ref C) (some dd) a) ∧ H1 dd = some (.xd fs) ∧ XfC K C ∧ PySem.W.findIn K (.ref C) f = some none ∧ fs.lookup f = some v ∧ Q v H1
theorem pe_xvA {X : Cx} {e : Expr} {te : TE} {pos : Pos} {n : Str} (he : PE X e te) (hb : attributeBase e n X.env (eval e X.env) = eval e X.env := by rfl) : PE X (.Attribute e n pos) (tXvA X.K n te) := by
  refine ⟨fun pins s σ H Q I h => ?_⟩
  refine attr_of hb (thn (he.run pins s σ H _ I h) fun u s1 hh => ?_)
  obtain ⟨x, H1, I1, rx, C, a, dd, fs, v, ex, eo, ea, T, hno, l, q⟩ := hh
  subst ex
  obtain rfl : u = Value.ref a := rx
  obtain ⟨⟨oe, vs, ha, hz, hd⟩, _, _⟩ := I1.hok a _ eo
  have hx : ObjOk X.prog X.w H1 s1.heap dd (.xd fs) := I1.hok dd _ ea
  obtain ⟨mA, hns, hr⟩ := hx
  obtain ⟨od, ho, hl⟩ := lookIn_ns hns
  obtain ⟨u, hu, ru⟩ := RelO.some_of (v := v) (o := mA n) (by rw [← l]; exact hr n)
  have J : PySem.W.InstAt s1.heap a oe C (some od) := ⟨ha, hz.1, by unfold PySem.W.notCls; rw [hd] <;> rfl, by rw [hz.2]; exact ho⟩
  exact HandSPX.exc_get I1.kIn J T.ga T.gg T.exC (PySem.W.findObj_own T.hdC hno rfl (by rw [hl, hu])) (handed_of ru) ⟨v, H1, I1.tok _, ru, q⟩
end OGX
set_option Elab.async false
set_option linter.all false
set_option maxRecDepth 100000
set_option maxHeartbeats 4000000
namespace OGX
open PySem PySem.Spec PyProof.Rows L2
section
variable {X : Cx}
/-- xs == []: whatever the items are -/
def rEqNil (K : PySem.W.Frag) : R2 := fun x y H Q => ∃ (a b : Addr) (xs : List V), x = .ref a ∧ y = .ref b ∧ SqL K H a xs ∧ SqL K H b [] ∧ Q (.bl xs.isEmpty) H
theorem op_eqNil (hu : X.A.units + 64 < cLine) : OpR X (compareOp .Eq) (rEqNil X.K) := by
  intro pins s σ H x y v u Q I rx ry h
  obtain ⟨a, b, xs, rfl, rfl, h1, h2, q⟩ := h
  cases rx
  cases ry
  obtain ⟨its, r1, p1, _⟩ := I.list h1
  obtain ⟨its2, r2, p2, _⟩ := I.list h2
  cases r2
  cases r1 with
  | nil => exact SeqAt.eq_listAt (e := fun _ => true) p1.isList p2.isList rfl (by omega) (fun j h1 _ => absurd h1 (by simp)) ⟨.bl _, H, I, rfl, q⟩
  | cons r rs => exact SeqAt.eq_list_lengthsAt p1.isList p2.isList (by simp) (by omega) ⟨.bl _, H, I, rfl, q⟩
end
end OGX
set_option Elab.async false
set_option linter.all false
set_option maxRecDepth 100000
set_option maxHeartbeats 4000000
namespace OGX
open PySem PySem.Spec PyProof.Rows L2 LamX
/-- as law_callG, with tables of code objects -/
theorem law_callGL {P : Program} {w : World} {K : PySem.W.Frag} {mg mb : Str → Option Value} {k : Nat} {fa a : Addr} {Ts : List (Addr × Addr)} {fd : FuncData} {x : Str} {sp : Sp} {s₁ : Shared} {vs : List Value} {ns : List Int}
    (KX : K.In s₁.heap) (G : s₁.heap.Ns mainGlobals mg) (B : s₁.heap.Ns builtinsNs mb) (bs : ∀ x : Str, x ≠ "__name__" → mb x = bootBuiltins x) (lim : s₁.heap.NoLimit) (gens : s₁.gens = #[])
    (tP : ∀ t ∈ Ts, s₁.heap.get? t.2 = some { cls := .none, data := .fields #[] }) (kP : ∀ t ∈ Ts, K.lookup t.2 = none) (cd : ∀ t ∈ Ts, PySem.W.CodeHd s₁.heap t.1 t.2)
    (bmod : ∃ (bm : Addr) (ob : Obj), mg "__builtins__" = some (.ref bm) ∧ bm ≠ builtinsNs ∧ s₁.heap.get? bm = some ob ∧ ob.cls = .type "module" ∧ ob.dict = some builtinsNs ∧ ob.data = .plain)
    (ha : s₁.heap.get? a = some { cls := .type "list", data := .seq vs.toArray }) (hi : IntsAre vs ns) (hl : ns.length ≤ sizeLine) (hr : Room k callerA)
    (F : ∀ base : Heap, K.In base → base.Ns mainGlobals mg → (∀ t ∈ Ts, TabB base mg t.1 t.2) → FnG P w K mg base k fa fd [x] sp) (hb : ∀ (s : Shared) (u : Value), BindsTo s fd ⟨[u], []⟩ [(x, u)])
    (hsp : ∀ H : Hp, (∀ t ∈ Ts, H t.2 = some (.tbl #[])) → SqL K H a (ns.map V.int) → sp [.ref a] H (fun v _ => v = .bl true) E0) :
    codeAny (model P w) callerA (.call (.ref fa) ⟨[.ref a], []⟩) (fun r s' => r = .ok (.ret (.bool true)) ∧ OldK s₁.heap s'.heap ∧ s'.os = s₁.os ∧ AllBare s'.gens) s₁ := by
  have rv := vals_ints hi
  have naP : ∀ t ∈ Ts, a ≠ t.2 := fun t ht z => by
    rw [z, tP t ht] at ha
    cases ha
  have go : ∀ H : Hp, (∀ t ∈ Ts, H t.2 = some (.tbl #[])) → (∀ b u, H b = some u → (∃ t ∈ Ts, b = t.2) ∨ (b = a ∧ K.lookup a = none ∧ u = .frz { cls := .type "list", data := .seq vs.toArray } (.lst (ns.map V.int)))) → SqL K H a (ns.map V.int) →
      codeAny (model P w) callerA (.call (.ref fa) ⟨[.ref a], []⟩) (fun r s' => r = .ok (.ret (.bool true)) ∧ OldK s₁.heap s'.heap ∧ s'.os = s₁.os ∧ AllBare s'.gens) s₁ := by
    intro H hP hH hS
    have out : ∀ {b : Addr} {o : Obj}, s₁.heap.get? b = some o → (b = a → False) → ((∃ t ∈ Ts, b = t.2) → False) → (hidT s₁.heap H).get? b = some o := fun {b o} e n m => hidT_get e (by
      cases q : H b with
      | none => rfl
      | some u => exact ((hH b u q).elim m fun z => n z.1).elim)
    have ns1 : ∀ {b : Addr} {m : Str → Option Value}, s₁.heap.Ns b m → (hidT s₁.heap H).Ns b m := by
      rintro b m ⟨o, es, ep, e, d, r⟩
      refine ⟨o, es, ep, out e (fun z => ?_) (fun z => ?_), d, r⟩
      · rw [z, ha] at e
        cases e
        cases d
      · obtain ⟨t, ht, z⟩ := z
        rw [z, tP t ht] at e
        cases e
        cases d
    have K1 : K.In (hidT s₁.heap H) := fun b o e => hidT_get (KX b o e) (by
      cases q : H b with
      | none => rfl
      | some u =>
        rcases hH b u q with ⟨t, ht, z⟩ | ⟨z, hk, _⟩
        · rw [z, kP t ht] at e
          cases e
        · rw [z, hk] at e
          cases e)
    have TB : ∀ t ∈ Ts, TabB (hidT s₁.heap H) mg t.1 t.2 := by
      intro t ht
      refine ⟨?_, ?_, fun z => ?_⟩
      · obtain ⟨o, us, file, tf, flags, tg, inF, text, tt, e1, r1, r2, r3, r4, r5, r6, r7, r8, ne⟩ := cd t ht
        refine ⟨o, us, file, tf, flags, tg, inF, text, tt, out e1 (fun z => ?_) (fun z => ?_), r1, r2, r3, r4, r5, r6, r7, r8, ne⟩
        · rw [z, ha] at e1
          cases e1
          exact absurd r1 (by simp)
        · obtain ⟨t', ht', z⟩ := z
          rw [z, tP t' ht'] at e1
          cases e1
          exact absurd r1 (by simp)
      · obtain ⟨bm, ob, b1, b2, b3, b4, b5, b6⟩ := bmod
        refine ⟨bm, ob, b1, b2, fun z => ?_, fun z => ?_, out b3 (fun z => ?_) (fun z => ?_), b4, b5, b6⟩
        · obtain ⟨o, es, ep, e, d, _⟩ := G
          rw [z, e] at b3
          cases b3
          rw [d] at b6
          cases b6
        · rw [z, tP t ht] at b3
          cases b3
          cases b6
        · rw [z, ha] at b3
          cases b3
          cases b6
        · obtain ⟨t', ht', z⟩ := z
          rw [z, tP t' ht'] at b3
          cases b3
          cases b6
      · obtain ⟨o, es, ep, e, d, _⟩ := G
        rw [z, tP t ht] at e
        cases e
        cases d
    obtain ⟨mc, l1, l2⟩ := lim
    have e0 : Env0 P w K mg (hidT s₁.heap H) callerA [] s₁ H := {
      frames := rfl
      mod := ⟨K1, ns1 G, ⟨mb, ns1 B, bs⟩, ⟨mc, ns1 l1, l2⟩⟩
      bs := fun b o e => of_hidT e
      bsz := Nat.le_of_eq (hidT_size _ _)
      funs := trivial
      frf := fun b z => by cases z
      hok := fun b u q => by
        rcases hH b u q with ⟨t, ht, z⟩ | ⟨z, _, rfl⟩
        · rw [z] at q ⊢
          rw [hP t ht] at q
          cases q
          exact tP t ht
        · rw [z]
          exact ⟨ha, by rw [List.length_map]; exact hl, vs, _, rv, ha⟩
      bare := .of_eq gens }
    refine codeAny_mono ((F _ K1 (ns1 G) TB).run callerA [] s₁ H ⟨[.ref a], []⟩ [.ref a] [.ref a] _ _ rfl hr e0 (hb s₁ (.ref a)) (.cons rfl .nil) (hsp H hP hS)) fun r s' z => ?_
    rcases r with e | fl
    · exact z.elim
    rcases fl with _ | _ | _ | u
    case next => exact z.elim
    case brk => exact z.elim
    case cont => exact z.elim
    obtain ⟨v, H', os, bare, un, ok', rv', q⟩ := z
    cases (show v = .bl true from q)
    cases (show u = Value.bool true from rv')
    have kept : ∀ b o, (¬ ∃ t ∈ Ts, b = t.2) → s₁.heap.get? b = some o → s'.heap.get? b = some o := fun b o n e => by
      cases q : H b with
      | none => exact un.keep b o e q (fun z => by cases z) (fun z => by cases z)
      | some t =>
        rcases hH b t q with z | ⟨rfl, _, rfl⟩
        · exact absurd z n
        · obtain ⟨g, _⟩ := ok' b _ (un.frzs b _ _ q)
          rw [ha] at e
          cases e
          exact g
    have gr : ∀ t ∈ Ts, ∃ more, s'.heap.get? t.2 = some { cls := .none, data := .fields (#[] ++ more) } := fun t ht => by
      obtain ⟨more, gr⟩ := un.tbls t.2 #[] (hP t ht)
      exact ⟨more, ok' t.2 _ gr⟩
    refine ⟨rfl, ⟨fun b o e => ?_, fun b o e => ?_⟩, os, bare⟩
    · by_cases h : ∃ t ∈ Ts, b = t.2
      · obtain ⟨t, ht, h⟩ := h
        obtain ⟨more, gr⟩ := gr t ht
        rw [h, tP t ht] at e
        cases e
        rw [h]
        exact .inr (.inl ⟨((cd t ht).tab (tP t ht)).isCodeTable, rfl, #[], more, rfl, gr⟩)
      · exact .inl (kept b o h e)
    · by_cases h : ∃ t ∈ Ts, b = t.2
      · obtain ⟨t, ht, h⟩ := h
        obtain ⟨more, gr⟩ := gr t ht
        rw [h]
        exact ⟨_, gr⟩
      · exact ⟨o, kept b o h e⟩
  have isT : ∀ b, (Ts.any fun t => decide (t.2 = b)) = true ↔ ∃ t ∈ Ts, b = t.2 := fun b => by
    rw [List.any_eq_true]
    exact ⟨fun ⟨t, ht, e⟩ => ⟨t, ht, (of_decide_eq_true e).symm⟩, fun ⟨t, ht, e⟩ => ⟨t, ht, decide_eq_true e.symm⟩⟩
  cases hk : K.lookup a with
  | some o =>
    have e := KX a o hk
    rw [ha] at e
    cases e
    refine go (fun b => if (Ts.any fun t => decide (t.2 = b)) = true then some (.tbl #[]) else none) (fun t ht => if_pos ((isT _).mpr ⟨t, ht, rfl⟩)) (fun b u z => ?_) (.inr ⟨_, vs.toArray, _, hk, rfl, rfl, rfl, by rw [List.size_toArray, hi.length]; exact hl, by simpa using rv⟩)
    by_cases h : (Ts.any fun t => decide (t.2 = b)) = true
    · exact .inl ((isT _).mp h)
    · cases (if_neg h).symm.trans z
  | none =>
    refine go (fun b => if (Ts.any fun t => decide (t.2 = b)) = true then some (.tbl #[]) else if b = a then some (.frz { cls := .type "list", data := .seq vs.toArray } (.lst (ns.map V.int))) else none) (fun t ht => if_pos ((isT _).mpr ⟨t, ht, rfl⟩)) (fun b u z => ?_) (.inl (.inr ⟨{ cls := .type "list", data := .seq vs.toArray }, (if_neg fun z => by
      obtain ⟨t, ht, z⟩ := (isT _).mp z
      exact naP t ht z).trans (if_pos rfl)⟩))
    by_cases h : (Ts.any fun t => decide (t.2 = b)) = true
    · exact .inl ((isT _).mp h)
    · have z := (if_neg h).symm.trans z
      by_cases h2 : b = a
      · exact .inr ⟨h2, hk, (Option.some.inj ((if_pos h2).symm.trans z)).symm⟩
      · cases (if_neg h2).symm.trans z
theorem walkGL {l : PySem.W.OpenLaw} {n k : Nat} {q : Program} {loose : List Str} {XP : (Str → Option Value) → Heap → Prop} {YP : World → Heap → Prop} {d : DefRec} {K : Params → PySem.W.Frag} {x : Str}
    (h1 : l.most = some n) (h2 : n ≤ sizeLine) (h3 : d.params.defaults = []) (h4 : Room k callerA) (h5 : ∀ (w : World) (h : Heap), YP w h → (K w.params).In h)
    (h6 : ∀ (w : World) (mg : Str → Option Value) (fa : Addr) (h : Heap), YP w h → XP mg h → (K w.params).In h → h.Ns mainGlobals mg → mg d.name = some (.ref fa) → ∃ (fd : FuncData) (sp : Sp) (Ts : List (Addr × Addr)), (∀ t ∈ Ts, h.get? t.2 = some { cls := .none, data := .fields #[] }) ∧ (∀ t ∈ Ts, (K w.params).lookup t.2 = none) ∧ (∀ t ∈ Ts, PySem.W.CodeHd h t.1 t.2) ∧
      (∀ (s : Shared) (u : Value), BindsTo s fd ⟨[u], []⟩ [(x, u)]) ∧
      (∀ (H : Hp) (a : Addr) (ns : List Int), ns.length ≤ n → (∀ z ∈ ns, Builtin.Int.intBits z ≤ 1048576) → (∀ t ∈ Ts, H t.2 = some (.tbl #[])) → SqL (K w.params) H a (ns.map V.int) → sp [.ref a] H (fun v _ => v = .bl true) E0) ∧
      ∀ base : Heap, (K w.params).In base → base.Ns mainGlobals mg → (∀ t ∈ Ts, TabB base mg t.1 t.2) → FnG l.prog w (K w.params) mg base k fa fd [x] sp) :
    PySem.W.WalkO q loose XP YP l.row.toRowW d [] (fun f vs => PySem.call f vs) := by
  refine Att.attach_callB h1 h3 fun w a0 a1 mg mb fa o pm cd doc a vs ns G Y b1 b2 b3 b4 b5 b6 b7 b8 b9 => ?_
  have X := h5 w _ Y
  obtain ⟨fd, sp, Ts, c1, c2, c3, c4, c5, c6⟩ := h6 w mg fa _ Y G.X X G.T.g b4
  exact law_callGL X G.T.g G.T.b G.T.builtins G.T.nolimit b9 c1 c2 c3 G.T.bmain b5 b6 (Nat.le_trans b7 h2) h4 c6 c4 fun H hP hS => c5 H a ns b7 b8 hP hS
end OGX
set_option Elab.async false
set_option linter.all false
set_option maxRecDepth 100000
set_option maxHeartbeats 4000000
namespace OGX
open PySem PySem.Spec PyProof.Rows L2
/-! cuts: what is wanted behind a part is said in a word of one's own -/
theorem pe_cut {X : Cx} {e : Expr} {te : TE} (h : PE X e te) : PE X e (fun σ H Q => ∃ Qs : VK, (∀ v H', Qs v H' → Q v H') ∧ te σ H Qs) := by
  refine ⟨fun pins s σ H Q I hh => ?_⟩
  obtain ⟨Qs, hq, ht⟩ := hh
  refine wpAny_mono (h.run pins s σ H Qs I ht) (fun u s1 hu => ?_) fun _ _ x => x
  obtain ⟨v, H1, I1, r1, q1⟩ := hu
  exact ⟨v, H1, I1, r1, hq v H1 q1⟩
theorem pt_cut {X : Cx} {e : Expr} {te : TT} (h : PT X e te) : PT X e (fun σ H Q => ∃ Qs : Bool → Hp → Prop, (∀ v H', Qs v H' → Q v H') ∧ te σ H Qs) := by
  refine ⟨fun pins s σ H Q I hh => ?_⟩
  obtain ⟨Qs, hq, ht⟩ := hh
  refine wpAny_mono (h.run pins s σ H Qs I ht) (fun u s1 hu => ?_) fun _ _ x => x
  obtain ⟨H1, I1, q1⟩ := hu
  exact ⟨H1, I1, hq u H1 q1⟩
theorem ps_cut {X : Cx} {st : Stmt} {t : TS} (h : PS X st t) : PS X st (fun D σ H => ∃ Ns : L2.St → Hp → Prop, (∀ σ' H', Ns σ' H' → D.nx σ' H') ∧ t { D with nx := Ns } σ H) := by
  refine ⟨fun pins s σ H D I hh => ?_⟩
  obtain ⟨Ns, hq, ht⟩ := hh
  refine wpAny_mono (h.run pins s σ H _ I ht) (fun f s1 hu => ?_) fun _ _ x => x
  cases f with
  | next =>
    obtain ⟨σ', H', I', q⟩ := hu
    exact ⟨σ', H', I', hq _ _ q⟩
  | brk => exact hu
  | cont => exact hu
  | ret v => exact hu
end OGX
set_option Elab.async false
set_option linter.all false
set_option maxRecDepth 100000
set_option maxHeartbeats 8000000
namespace OG
open PySem PySem.Spec PyProof.Rows L2
def Frm.data (f : Frm) : PyData := .tuple [.str f.word, .tuple f.partsL]
/-- a form without operands -/
def FrmS (ks : List Str) : Frm → Prop
  | .one gs => GsOk gs
  | .road k g h => k ∈ ks ∧ (1 ≤ g ∧ g ≤ 4) ∧ 1 ≤ h ∧ h ≤ 4
  | _ => False
theorem g1234 (g : Int) (h1 : 1 ≤ g) (h4 : g ≤ 4) : 0 < (([1, 2, 3, 4] : List Int).filter fun x => !decide (x = g)).length := by
  have : g = 1 ∨ g = 2 ∨ g = 3 ∨ g = 4 := by omega
  rcases this with rfl | rfl | rfl | rfl <;> decide
theorem le_lt_nd : ∀ {ns : List Int}, ns.Pairwise (· ≤ ·) → ns.Nodup → ns.Pairwise (· < ·)
  | [], _, _ => .nil
  | n :: r, h1, h2 => by
    rw [List.pairwise_cons] at h1
    rw [List.nodup_cons] at h2
    refine List.pairwise_cons.mpr ⟨fun x hx => ?_, le_lt_nd h1.2 h2.2⟩
    have := h1.1 x hx
    have : n ≠ x := fun e => h2.1 (by rw [e]; exact hx)
    omega
theorem some_ints {ys zs : List V} (pm : (ys ++ zs).Perm (([1, 2, 3, 4] : List Int).map V.int)) : ∃ ns : List Int, ys = ns.map V.int ∧ ns.Nodup ∧ ∀ g ∈ ns, 1 ≤ g ∧ g ≤ 4 := by
  obtain ⟨ns, rfl, hr⟩ := ints_of (P := fun g => 1 ≤ g ∧ g ≤ 4) (xs := ys) fun x hx => by
    have := pm.mem_iff.mp (List.mem_append_left zs hx)
    obtain ⟨z, hz, rfl⟩ := List.mem_map.mp this
    simp only [List.mem_cons, List.mem_nil_iff, or_false] at hz
    exact ⟨z, rfl, by omega⟩
  refine ⟨ns, rfl, ?_, hr⟩
  have nd : (ns.map V.int ++ zs).Nodup := pm.nodup_iff.mpr (by decide)
  have := (List.nodup_append.mp nd).1
  exact (List.pairwise_map.mp this).imp fun h e => h (congrArg V.int e)
section
variable {P : Program} {w : World} {K : PySem.W.Frag} {mg : Str → Option Value} {base : Heap}
theorem Dr.sm9 {p : Addr} {k : Nat} {H H1 H2 : Hp} (d : Dr p k H H1) (s : Same H1 H2) : Dr p k H H2 := ⟨d.1.trans (Same.kp s), d.2.same s⟩
def spSimple (K : PySem.W.Frag) : Sp := fun vs H Q _ => ∃ (p kt : Addr) (w k : Nat) (ks : List Str), vs = [.ref p, .ref kt, .int (w : Int)] ∧ w ≤ 4 ∧ SqT K H kt (ks.map V.str) ∧ 1 ≤ ks.length ∧ ks.length ≤ 3 ∧ Pot (k + 20) H p ∧
  ∀ (a : Addr) (f : Frm) (H' : Hp), Dr p k H H' → H a = none → FrmS ks f → Td K H' (.ref a) f.data → Q (.ref a) H'
theorem ok_l_script_simple (T : Txt K mg) : FnOk P w K mg base CX0 3 T.f_l_script_simple T.fd_l_script_simple ["pot", "kinds", "width"] (spSimple K) := by
  refine T.F_l_script_simple.ok sc_l_script_simple (fun vs H Q E h => ?_) (fun cdv A outer s H vs Q E hr h => ?_)
  · obtain ⟨p, kt, w, k, ks, rfl, _⟩ := h
    rfl
  · obtain ⟨p, kt, w, k, ks, rfl, hw, hK, k1, k3, hP, q⟩ := h
    refine ⟨_, (pss_cons (ps_set (i := 3) sc_l_script_simple.nd rfl (Or.inl rfl) (pe_lst (pa_cons pe_int (pa_cons pe_int (pa_cons pe_int (pa_cons pe_int pa_nil))))))
  (pss_cons (ps_if (OGX.pt_cut (PW.pt (pw_or (pt_cmpR op_eq (pv 2) pe_int (nomark _)) (pw_or1 (pt_cmpR op_eq (pe_call (ok_l_take T) (hr.mono (by decide)) (by rfl) T.g_l_take T.F_l_take.kp T.b_l_take .nil pass0 (pa_cons (pv 0) (pa_cons pe_int pa_nil))) pe_int (nomark _)))))) (pss_cons (ps_set (i := 4) sc_l_script_simple.nd rfl (Or.inl rfl) (pe_call (ok_l_script_some T) (hr.mono (by decide)) (by rfl) T.g_l_script_some T.F_l_script_some.kp T.b_l_script_some .nil pass0 (pa_cons (pv 0) (pa_cons (pv 3) (pa_cons (pe_call (ok_l_take T) (hr.mono (by decide)) (by rfl) T.g_l_take T.F_l_take.kp T.b_l_take .nil pass0 (pa_cons (pv 0) (pa_cons (pe_op op_add (pv 2) pe_int) pa_nil))) pa_nil)))))
  (pss_one (ps_ret (pe_tup (pa_cons pe_str (pa_cons (pe_callTy call_tuple_of (by rfl) T.n_tuple (by decide +kernel) (pa_cons (pe_callB cr_sorted (by rfl) T.n_sorted (by decide +kernel) (pa_cons (pv 4) pa_nil)) pa_nil)) pa_nil)))))) pss_nil)
  (pss_cons (ps_set (i := 5) sc_l_script_simple.nd rfl (Or.inr rfl) (pe_call (ok_l_of T) (hr.mono (by decide)) (by rfl) T.g_l_of T.F_l_of.kp T.b_l_of .nil pass0 (pa_cons (pv 0) (pa_cons (pe_lst (pa_cons pe_int (pa_cons pe_int (pa_cons pe_int (pa_cons (pe_op op_add pe_int (pe_call (ok_l_take T) (hr.mono (by decide)) (by rfl) T.g_l_take T.F_l_take.kp T.b_l_take .nil pass0 (pa_cons (pv 0) (pa_cons pe_int pa_nil)))) pa_nil))))) pa_nil))))
  (pss_cons (ps_set (i := 6) sc_l_script_simple.nd rfl (Or.inl rfl) (OGX.pe_cut (pe_ifExp (PW.pt (pw_or (pt_cmpR op_lt (pv 2) pe_int (nomark _)) (pw_or1 (pt_cmpR op_eq (pe_call (ok_l_take T) (hr.mono (by decide)) (by rfl) T.g_l_take T.F_l_take.kp T.b_l_take .nil pass0 (pa_cons (pv 0) (pa_cons pe_int pa_nil))) pe_int (nomark _))))) (pv 5) (pe_call (ok_l_of T) (hr.mono (by decide)) (by rfl) T.g_l_of T.F_l_of.kp T.b_l_of .nil pass0 (pa_cons (pv 0) (pa_cons (pe_lc (own := [("gate", 7)]) (g := gName 7) (by rfl) sc_l_script_simple.nd (pi_list (pv 3)) (blkOk_by (own := [("gate", 7)]) (by rfl)) (fun _ _ _ _ _ => (pg_name (i := 7) sc_l_script_simple.nd rfl (Or.inl rfl))) (fun _ _ _ _ _ => (pts_one (pt_cmpR op_ne (pv 7) (pv 5) (nomark _)))) (fun _ _ _ _ _ => (pv 7))) pa_nil))))))
  (pss_one (ps_ret (pe_tup (pa_cons pe_str (pa_cons (pe_tup (pa_cons (pe_call (ok_l_ofT T) (hr.mono (by decide)) (by rfl) T.g_l_of T.F_l_of.kp T.b_l_of .nil pass0 (pa_cons (pv 0) (pa_cons (pv 1) pa_nil))) (pa_cons (pv 5) (pa_cons (pv 6) pa_nil)))) pa_nil))))))))), ?_⟩
    have wide : ∀ {n : Nat}, n ≤ 1000 → n ≤ sizeLine := fun h => Nat.le_trans h (by decide)
    refine ⟨wide (show 4 ≤ 1000 by decide), fun gl hgl => ?_⟩
    have s1 := same_new (o := .lst (([1, 2, 3, 4] : List Int).map V.int)) hgl
    have gG : (upd H gl (.lst (([1, 2, 3, 4] : List Int).map V.int))) gl = some (.lst (([1, 2, 3, 4] : List Int).map V.int)) := upd_same
    have nG := hP.ne hgl
    have d1 : Dr p (k + 20) H (upd H gl (.lst (([1, 2, 3, 4] : List Int).map V.int))) := ⟨Same.kp s1, hP.same s1⟩
    have e1 : upd H gl (.lst [.int 1, .int 2, .int 3, .int 4]) = upd H gl (.lst (([1, 2, 3, 4] : List Int).map V.int)) := rfl
    rw [e1]
    generalize upd H gl (.lst (([1, 2, 3, 4] : List Int).map V.int)) = H1 at *
    refine ⟨fun _ H' => Dr p (k + 18) H H' ∧ H' gl = some (.lst (([1, 2, 3, 4] : List Int).map V.int)), fun b H2 ⟨d2, g2⟩ => ?_, ?_⟩
    rotate_left
    · refine ⟨_, rfl, rfl, _, rfl, ?_⟩
      by_cases h0 : w = 0
      · rw [decide_eq_true (by rw [h0]; rfl)]
        exact iteT ⟨d1.mono (by omega), gG⟩
      · rw [decide_eq_false (fun z => h0 (by have := V.int.inj z; omega))]
        refine iteF ?_
        exact ⟨_, rfl, p, 5, k + 19, rfl, d1.2.mono (by omega), by decide, by decide, fun r H2 r0 r1 d2 => ⟨rfl, _, rfl, (d1.trans d2).mono (by omega), d2.st nG gG⟩⟩
    cases b with
    | true =>
      refine iteT ?_
      refine ⟨.ref p, rfl, .ref gl, rfl, .ref p, rfl, .int (w : Int), rfl, _, _, rfl, rfl, p, w + 1, k + 17, rfl, d2.2.mono (by omega), by omega, by omega, fun r H3 r0 r1 d3 => ?_⟩
      have g3 := d3.st nG g2
      obtain ⟨m, rfl⟩ : ∃ m : Nat, r = (m : Int) := ⟨r.toNat, by omega⟩
      refine ⟨p, gl, ([1, 2, 3, 4] : List Int).map V.int, m, k + 10, rfl, d3.2.mono (by omega), SqL.of g3, nG, by show m ≤ 4; omega, by decide, fun q1 ys zs H4 hl pm d4 nq nqp gq => ?_⟩
      obtain ⟨ns, rfl, nd, rg⟩ := some_ints pm
      have nl : ns.length ≤ 4 := by
        rw [List.length_map] at hl
        omega
      refine ⟨_, rfl, q1, ns, rfl, SqL.of gq, by omega, fun ns' L pm2 hs nL => ?_⟩
      have nl' : ns'.length = ns.length := pm2.length_eq
      refine ⟨L, _, rfl, .inl ⟨SqL.of upd_same, fun t ht => ?_⟩⟩
      refine ⟨wide (show 2 ≤ 1000 by decide), fun a ha => ?_⟩
      have f1 := ((d2.trans d3).trans d4).new (o := .lst (ns'.map V.int)) nL
      have f2 := f1.new (o := .tup (ns'.map V.int)) ht
      have gt : (upd (upd H4 L (.lst (ns'.map V.int))) t (.tup (ns'.map V.int))) t = some (.tup (ns'.map V.int)) := upd_same
      have sa := same_new (o := .tup [.str "one", .ref t]) ha
      refine q a (.one ns') _ ((f2.new ha).mono (by omega)) (f2.fr ha) ⟨le_lt_nd hs (pm2.nodup_iff.mpr nd), fun g hg => rg g (pm2.mem_iff.mp hg)⟩ ?_
      exact .tup (SqT.of upd_same) (.cons (.str _) (.cons (.tup (SqT.of (sa _ _ gt)) (tdAll_ints ns')) .nil))
    | false =>
      refine iteF ?_
      dsimp only [tNext, tSeq]
      refine ⟨.ref p, rfl, .ref p, rfl, p, 4, k + 17, rfl, d2.2.mono (by omega), by decide, by decide, fun r H3 r0 r1 d3 => ?_⟩
      refine ⟨_, _, rfl, rfl, wide (show 4 ≤ 1000 by decide), fun l1 hl1 => ?_⟩
      have d13 := d2.trans d3
      have g3 := d3.st nG g2
      refine ⟨p, l1, ([1, 1, 2, 1 + r] : List Int).map V.int, k + 16, rfl, (d13.new hl1).2.mono (by omega), SqL.of upd_same, d13.2.ne hl1, (by show 0 < 4; decide), (by show 4 < 100000; decide), fun i x H4 hx d4 => ?_⟩
      obtain ⟨g, hg, rfl⟩ := int_at hx
      have hg := List.mem_of_getElem? hg
      have gr : 1 ≤ g ∧ g ≤ 4 := by
        simp only [List.mem_cons, List.mem_nil_iff, or_false] at hg
        omega
      have d14 := (d13.new (o := .lst (([1, 1, 2, 1 + r] : List Int).map V.int)) hl1).trans d4
      have g4 := d4.st nG (same_new hl1 _ _ g3)
      have tk4 := d14.tk hP
      refine ⟨fun v H' => ∃ h : Int, v = .int h ∧ (1 ≤ h ∧ h ≤ 4) ∧ Dr p (k + 5) H H', fun v H5 ⟨h, ev, hh, d5⟩ => ?_, ?_⟩
      · subst ev
        have tk5 := d5.tk hP
        obtain ⟨k0, hk0⟩ : ∃ k0, ks[0]? = some k0 := ⟨ks[0]'(by omega), List.getElem?_eq_getElem (by omega)⟩
        refine ⟨.ref p, rfl, .ref kt, rfl, p, kt, ks.map V.str, k + 4, rfl, d5.2.mono (by omega), SqT.tk hK tk5, by rw [List.length_map]; omega, by rw [List.length_map]; omega, fun j x H6 hx d6 => ?_⟩
        obtain ⟨kd, hkd, rfl⟩ := str_at hx
        refine ⟨_, rfl, _, rfl, wide (show 3 ≤ 1000 by decide), fun t ht => ⟨wide (show 2 ≤ 1000 by decide), fun a ha => ?_⟩⟩
        have d6 := d5.trans d6
        have d7 := d6.new (o := .tup [.str kd, .int g, .int h]) ht
        have gt : (upd H6 t (.tup [.str kd, .int g, .int h])) t = some (.tup [.str kd, .int g, .int h]) := upd_same
        have sa := same_new (o := .tup [.str "road", .ref t]) ha
        refine q a (.road kd g h) _ ((d7.new ha).mono (by omega)) (d7.fr ha) ⟨List.mem_of_getElem? hkd, gr, hh⟩ ?_
        exact .tup (SqT.of upd_same) (.cons (.str _) (.cons (.tup (SqT.of (sa _ _ gt)) (.cons (.str _) (.cons (.int _) (.cons (.int _) .nil)))) .nil))
      · have base : ∀ {H' : Hp}, Dr p (k + 5) H H' → ∃ h : Int, V.int g = .int h ∧ (1 ≤ h ∧ h ≤ 4) ∧ Dr p (k + 5) H H' := fun d => ⟨g, rfl, gr, d⟩
        refine ⟨_, rfl, _, _, rfl, rfl, _, rfl, ?_⟩
        by_cases h2 : w < 2
        · rw [decide_eq_true (show ((w : Int) < 2) by omega)]
          refine iteT ?_
          refine iteT ?_
          exact ⟨_, rfl, base (d14.mono (by omega))⟩
        rw [decide_eq_false (show ¬ ((w : Int) < 2) by omega)]
        refine iteF ?_
        refine ⟨_, rfl, p, 5, k + 15, rfl, d14.2, by decide, by decide, fun r5 H5 r50 r51 d5 => ⟨rfl, _, rfl, ?_⟩⟩
        have d15 := d14.trans d5
        have g5 := d5.st nG g4
        by_cases h3 : r5 = 0
        · rw [decide_eq_true (by rw [h3])]
          refine iteT ?_
          exact ⟨_, rfl, base (d15.mono (by omega))⟩
        rw [decide_eq_false (fun z => h3 (V.int.inj z))]
        refine iteF ?_
        refine ⟨.ref p, rfl, .ref gl, rfl, gl, rfl, ⟨_, SqL.of g5⟩, fun D hD => ?_⟩
        have qD := d15.2.ne hD
        refine lc_list (K := K) (a := gl) (xs := ([1, 2, 3, 4] : List Int).map V.int) (fun i H' => Same H5 H' ∧ H' D = some (.lst (((([1, 2, 3, 4] : List Int).take i).filter fun x => !decide (x = g)).map V.int))) ⟨same_new hD, upd_same⟩ (fun i H' _ ⟨s, _⟩ => SqL.of (s _ _ g5)) ?_ ?_
        · rintro i x H6 hx ⟨s6, gD⟩
          obtain ⟨y, hy, rfl⟩ := int_at hx
          have tm := take_more hy
          refine ⟨rfl, ?_⟩
          refine ⟨_, rfl, _, rfl, rfl, _, rfl, ?_⟩
          rw [show decide (V.int y = V.int g) = decide (y = g) from decide_eq_decide.mpr ⟨V.int.inj, congrArg V.int⟩]
          by_cases e : y = g
          · rw [decide_eq_true e]
            refine iteF ?_
            refine ⟨s6, ?_⟩
            rw [tm, List.filter_append, show ([y].filter fun x => !decide (x = g)) = [] by rw [e]; simp, List.append_nil]
            exact gD
          · rw [decide_eq_false e]
            refine iteT ?_
            refine ⟨_, rfl, _, gD, ?_, fun b o e => ?_, ?_⟩
            · rw [List.length_map]
              exact (Nat.lt_of_le_of_lt (List.length_filter_le _ _) (Nat.lt_of_le_of_lt (show ((([1, 2, 3, 4] : List Int).take i)).length ≤ 4 by rw [List.length_take]; exact Nat.min_le_right _ _) (show 4 < sizeLine by decide)))
            · rw [upd_ne (ne_of_none e hD)]
              exact s6 _ _ e
            · rw [upd_same, tm, List.filter_append, show ([y].filter fun x => !decide (x = g)) = [y] by simp [e], List.map_append]
              rfl
        · rintro H6 ⟨s6, gD⟩
          refine ⟨p, D, _, k + 14, rfl, d5.2.same s6, SqL.of gD, qD, ?_, ?_, fun j x H7 hx d7 => ?_⟩
          · rw [List.length_map]
            exact g1234 g gr.1 gr.2
          · rw [List.length_map]
            exact Nat.lt_of_le_of_lt (List.length_filter_le _ _) (by decide)
          · obtain ⟨h, hh, rfl⟩ := int_at hx
            have hh := (List.mem_filter.mp (List.mem_of_getElem? hh)).1
            refine ⟨h, rfl, ?_, ((d15.sm9 s6).trans d7).mono (by omega)⟩
            have : h ∈ ([1, 2, 3, 4] : List Int) := List.mem_of_mem_take hh
            simp only [List.mem_cons, List.mem_nil_iff, or_false] at this
            omega
end
end OG
set_option Elab.async false
set_option linter.all false
set_option maxRecDepth 100000
set_option maxHeartbeats 8000000
namespace OG
open PySem PySem.Spec PyProof.Rows L2
theorem sl_tupAK {X : Cx} (K : PySem.W.Frag) (hK : X.K = K := by rfl) : SlR X (rSlA K) := hK ▸ sl_tupA
theorem ifS_ne {a b : Str} {A B : Prop} (h : decide (a = b) = false) (q : B) : if decide (V.str a = V.str b) = true then A else B := by
  rw [decide_eq_false (fun z => of_decide_eq_false h (V.str.inj z))]
  exact iteF q
theorem ifS_eq {a : Str} {A B : Prop} (q : A) : if decide (V.str a = V.str a) = true then A else B := by
  rw [decide_eq_true rfl]
  exact iteT q
section
variable {K : PySem.W.Frag} {a D : Addr} {xs : List V} {sl : Nat} {tt : TT} {te : TE} {vs : List Nat} {σ : L2.St} {H1 : Hp} {Qd : Hp → Prop}
/-- [x for x in a tuple if ..] -/
theorem lc_filtT (P : V → Bool) (hl : xs.length ≤ 10000) (hD : H1 D = none) (hT : SqT K H1 a xs) (hw : ∀ x, wipe ((wipe σ vs).set sl (some x)) vs = wipe σ vs)
    (ht : ∀ x H' (Q : Bool → Hp → Prop), x ∈ xs → Same H1 H' → (∀ H2, Same H' H2 → Q (P x) H2) → tt ((wipe σ vs).set sl (some x)) H' Q) (he : ∀ x H' (Q : VK), Q x H' → te ((wipe σ vs).set sl (some x)) H' Q)
    (hd : ∀ H', Same H1 H' → H' D = some (.lst (xs.filter P)) → Qd H') :
    ∃ W : Nat → Nat → Hp → Prop, (∃ m, W 0 m (upd H1 D (.lst []))) ∧ ∀ i m H, W i m H →
      ((Itt K a).stop i H ∧ Qd H) ∨ ((Itt K a).go i H ∧ ∃ Nx : Hp → Prop, (∀ H', Nx H' → ∃ m', m' < m ∧ W (i + 1) m' H') ∧ ∀ x H', (Itt K a).yld i H x H' → gName sl x (wipe σ vs) H' fun σ2 H2 => wipe σ2 vs = wipe σ vs ∧ tt σ2 H2 fun b H3 =>
        if b = true then te σ2 H3 fun y H4 => ∃ acc, H4 D = some (.lst acc) ∧ acc.length < sizeLine ∧ Nx (upd H4 D (.lst (acc ++ [y]))) else Nx H3) := by
  refine lc_tup (K := K) (a := a) (xs := xs) (fun i H' => Same H1 H' ∧ H' D = some (.lst ((xs.take i).filter P))) ⟨same_new hD, upd_same⟩ (fun i H' _ ⟨s, _⟩ => SqT.tk hT (Same.tk s)) ?_ ?_
  · rintro i x H' hx ⟨s, g⟩
    have tm := take_more hx
    refine ⟨hw x, ht x H' _ (List.mem_of_getElem? hx) s fun H2 s2 => ?_⟩
    have s := s.trans s2
    have g := s2 _ _ g
    cases e : P x with
    | false =>
      refine iteF ?_
      refine ⟨s, ?_⟩
      rw [tm, List.filter_append, show [x].filter P = [] by simp [e], List.append_nil]
      exact g
    | true =>
      refine iteT ?_
      refine he x H2 _ ⟨_, g, ?_, fun b o e' => ?_, ?_⟩
      · exact Nat.lt_of_le_of_lt (List.length_filter_le _ _) (Nat.lt_of_le_of_lt (show (xs.take i).length ≤ 10000 by rw [List.length_take]; omega) (by decide))
      · rw [upd_ne (ne_of_none e' hD)]
        exact s _ _ e'
      · rw [upd_same, tm, List.filter_append, show [x].filter P = [x] by simp [e]]
  · rintro H' ⟨s, g⟩
    rw [List.take_length] at g
    exact hd H' s g
theorem lc_filtL (P : V → Bool) (hl : xs.length ≤ 10000) (hD : H1 D = none) (hT : SqL K H1 a xs) (hw : ∀ x, wipe ((wipe σ vs).set sl (some x)) vs = wipe σ vs)
    (ht : ∀ x H' (Q : Bool → Hp → Prop), x ∈ xs → Same H1 H' → (∀ H2, Same H' H2 → Q (P x) H2) → tt ((wipe σ vs).set sl (some x)) H' Q) (he : ∀ x H' (Q : VK), Q x H' → te ((wipe σ vs).set sl (some x)) H' Q)
    (hd : ∀ H', Same H1 H' → H' D = some (.lst (xs.filter P)) → Qd H') :
    ∃ W : Nat → Nat → Hp → Prop, (∃ m, W 0 m (upd H1 D (.lst []))) ∧ ∀ i m H, W i m H →
      ((Itl K a).stop i H ∧ Qd H) ∨ ((Itl K a).go i H ∧ ∃ Nx : Hp → Prop, (∀ H', Nx H' → ∃ m', m' < m ∧ W (i + 1) m' H') ∧ ∀ x H', (Itl K a).yld i H x H' → gName sl x (wipe σ vs) H' fun σ2 H2 => wipe σ2 vs = wipe σ vs ∧ tt σ2 H2 fun b H3 =>
        if b = true then te σ2 H3 fun y H4 => ∃ acc, H4 D = some (.lst acc) ∧ acc.length < sizeLine ∧ Nx (upd H4 D (.lst (acc ++ [y]))) else Nx H3) := by
  refine lc_list (K := K) (a := a) (xs := xs) (fun i H' => Same H1 H' ∧ H' D = some (.lst ((xs.take i).filter P))) ⟨same_new hD, upd_same⟩ (fun i H' _ ⟨s, _⟩ => SqL.ext hT s) ?_ ?_
  · rintro i x H' hx ⟨s, g⟩
    have tm := take_more hx
    refine ⟨hw x, ht x H' _ (List.mem_of_getElem? hx) s fun H2 s2 => ?_⟩
    have s := s.trans s2
    have g := s2 _ _ g
    cases e : P x with
    | false =>
      refine iteF ?_
      refine ⟨s, ?_⟩
      rw [tm, List.filter_append, show [x].filter P = [] by simp [e], List.append_nil]
      exact g
    | true =>
      refine iteT ?_
      refine he x H2 _ ⟨_, g, ?_, fun b o e' => ?_, ?_⟩
      · exact Nat.lt_of_le_of_lt (List.length_filter_le _ _) (Nat.lt_of_le_of_lt (show (xs.take i).length ≤ 10000 by rw [List.length_take]; omega) (by decide))
      · rw [upd_ne (ne_of_none e' hD)]
        exact s _ _ e'
      · rw [upd_same, tm, List.filter_append, show [x].filter P = [x] by simp [e]]
  · rintro H' ⟨s, g⟩
    rw [List.take_length] at g
    exact hd H' s g
theorem lc_mapT (F : V → V) (hl : xs.length ≤ 10000) (hD : H1 D = none) (hT : SqT K H1 a xs) (hw : ∀ x, wipe ((wipe σ vs).set sl (some x)) vs = wipe σ vs)
    (ht : ∀ x H' (Q : Bool → Hp → Prop), Q true H' → tt ((wipe σ vs).set sl (some x)) H' Q) (he : ∀ x H' (Q : VK), x ∈ xs → Same H1 H' → (∀ H2, Same H' H2 → Q (F x) H2) → te ((wipe σ vs).set sl (some x)) H' Q)
    (hd : ∀ H', Same H1 H' → H' D = some (.lst (xs.map F)) → Qd H') :
    ∃ W : Nat → Nat → Hp → Prop, (∃ m, W 0 m (upd H1 D (.lst []))) ∧ ∀ i m H, W i m H →
      ((Itt K a).stop i H ∧ Qd H) ∨ ((Itt K a).go i H ∧ ∃ Nx : Hp → Prop, (∀ H', Nx H' → ∃ m', m' < m ∧ W (i + 1) m' H') ∧ ∀ x H', (Itt K a).yld i H x H' → gName sl x (wipe σ vs) H' fun σ2 H2 => wipe σ2 vs = wipe σ vs ∧ tt σ2 H2 fun b H3 =>
        if b = true then te σ2 H3 fun y H4 => ∃ acc, H4 D = some (.lst acc) ∧ acc.length < sizeLine ∧ Nx (upd H4 D (.lst (acc ++ [y]))) else Nx H3) := by
  refine lc_tup (K := K) (a := a) (xs := xs) (fun i H' => Same H1 H' ∧ H' D = some (.lst ((xs.take i).map F))) ⟨same_new hD, upd_same⟩ (fun i H' _ ⟨s, _⟩ => SqT.tk hT (Same.tk s)) ?_ ?_
  · rintro i x H' hx ⟨s, g⟩
    have tm := take_more hx
    refine ⟨hw x, ht x H' _ ?_⟩
    refine iteT ?_
    refine he x H' _ (List.mem_of_getElem? hx) s fun H2 s2 => ?_
    refine ⟨_, s2 _ _ g, ?_, fun b o e' => ?_, ?_⟩
    · exact Nat.lt_of_le_of_lt (show ((xs.take i).map F).length ≤ 10000 by rw [List.length_map, List.length_take]; omega) (by decide)
    · rw [upd_ne (ne_of_none e' hD)]
      exact (s.trans s2) _ _ e'
    · rw [upd_same, tm, List.map_append]
      rfl
  · rintro H' ⟨s, g⟩
    rw [List.take_length] at g
    exact hd H' s g
theorem lc_mapL (F : V → V) (hl : xs.length ≤ 10000) (hD : H1 D = none) (hT : SqL K H1 a xs) (hw : ∀ x, wipe ((wipe σ vs).set sl (some x)) vs = wipe σ vs)
    (ht : ∀ x H' (Q : Bool → Hp → Prop), Q true H' → tt ((wipe σ vs).set sl (some x)) H' Q) (he : ∀ x H' (Q : VK), x ∈ xs → Same H1 H' → (∀ H2, Same H' H2 → Q (F x) H2) → te ((wipe σ vs).set sl (some x)) H' Q)
    (hd : ∀ H', Same H1 H' → H' D = some (.lst (xs.map F)) → Qd H') :
    ∃ W : Nat → Nat → Hp → Prop, (∃ m, W 0 m (upd H1 D (.lst []))) ∧ ∀ i m H, W i m H →
      ((Itl K a).stop i H ∧ Qd H) ∨ ((Itl K a).go i H ∧ ∃ Nx : Hp → Prop, (∀ H', Nx H' → ∃ m', m' < m ∧ W (i + 1) m' H') ∧ ∀ x H', (Itl K a).yld i H x H' → gName sl x (wipe σ vs) H' fun σ2 H2 => wipe σ2 vs = wipe σ vs ∧ tt σ2 H2 fun b H3 =>
        if b = true then te σ2 H3 fun y H4 => ∃ acc, H4 D = some (.lst acc) ∧ acc.length < sizeLine ∧ Nx (upd H4 D (.lst (acc ++ [y]))) else Nx H3) := by
  refine lc_list (K := K) (a := a) (xs := xs) (fun i H' => Same H1 H' ∧ H' D = some (.lst ((xs.take i).map F))) ⟨same_new hD, upd_same⟩ (fun i H' _ ⟨s, _⟩ => SqL.ext hT s) ?_ ?_
  · rintro i x H' hx ⟨s, g⟩
    have tm := take_more hx
    refine ⟨hw x, ht x H' _ ?_⟩
    refine iteT ?_
    refine he x H' _ (List.mem_of_getElem? hx) s fun H2 s2 => ?_
    refine ⟨_, s2 _ _ g, ?_, fun b o e' => ?_, ?_⟩
    · exact Nat.lt_of_le_of_lt (show ((xs.take i).map F).length ≤ 10000 by rw [List.length_map, List.length_take]; omega) (by decide)
    · rw [upd_ne (ne_of_none e' hD)]
      exact (s.trans s2) _ _ e'
    · rw [upd_same, tm, List.map_append]
      rfl
  · rintro H' ⟨s, g⟩
    rw [List.take_length] at g
    exact hd H' s g
theorem lc_mapT' (zs : List Str) (hz : zs.length = xs.length) (hl : xs.length ≤ 10000) (hD : H1 D = none) (hT : SqT K H1 a xs) (hw : ∀ x, wipe ((wipe σ vs).set sl (some x)) vs = wipe σ vs)
    (ht : ∀ x H' (Q : Bool → Hp → Prop), Q true H' → tt ((wipe σ vs).set sl (some x)) H' Q) (he : ∀ (i : Nat) x y H' (Q : VK), xs[i]? = some x → zs[i]? = some y → Same H1 H' → (∀ H2, Same H' H2 → Q (.str y) H2) → te ((wipe σ vs).set sl (some x)) H' Q)
    (hd : ∀ H', Same H1 H' → H' D = some (.lst (zs.map V.str)) → Qd H') :
    ∃ W : Nat → Nat → Hp → Prop, (∃ m, W 0 m (upd H1 D (.lst []))) ∧ ∀ i m H, W i m H →
      ((Itt K a).stop i H ∧ Qd H) ∨ ((Itt K a).go i H ∧ ∃ Nx : Hp → Prop, (∀ H', Nx H' → ∃ m', m' < m ∧ W (i + 1) m' H') ∧ ∀ x H', (Itt K a).yld i H x H' → gName sl x (wipe σ vs) H' fun σ2 H2 => wipe σ2 vs = wipe σ vs ∧ tt σ2 H2 fun b H3 =>
        if b = true then te σ2 H3 fun y H4 => ∃ acc, H4 D = some (.lst acc) ∧ acc.length < sizeLine ∧ Nx (upd H4 D (.lst (acc ++ [y]))) else Nx H3) := by
  refine lc_tup (K := K) (a := a) (xs := xs) (fun i H' => Same H1 H' ∧ H' D = some (.lst ((zs.take i).map V.str))) ⟨same_new hD, upd_same⟩ (fun i H' _ ⟨s, _⟩ => SqT.tk hT (Same.tk s)) ?_ ?_
  · rintro i x H' hx ⟨s, g⟩
    have hi : i < zs.length := by
      rw [hz]
      exact (List.getElem?_eq_some_iff.mp hx).1
    have hy : zs[i]? = some (zs[i]'hi) := List.getElem?_eq_getElem hi
    have tm := take_more hy
    refine ⟨hw x, ht x H' _ ?_⟩
    refine iteT ?_
    refine he i x _ H' _ hx hy s fun H2 s2 => ?_
    refine ⟨_, s2 _ _ g, ?_, fun b o e' => ?_, ?_⟩
    · exact Nat.lt_of_le_of_lt (show ((zs.take i).map V.str).length ≤ 10000 by rw [List.length_map, List.length_take]; omega) (by decide)
    · rw [upd_ne (ne_of_none e' hD)]
      exact (s.trans s2) _ _ e'
    · rw [upd_same, tm, List.map_append]
      rfl
  · rintro H' ⟨s, g⟩
    rw [← hz, List.take_length] at g
    exact hd H' s g
theorem lc_mapL' (zs : List Str) (hz : zs.length = xs.length) (hl : xs.length ≤ 10000) (hD : H1 D = none) (hT : SqL K H1 a xs) (hw : ∀ x, wipe ((wipe σ vs).set sl (some x)) vs = wipe σ vs)
    (ht : ∀ x H' (Q : Bool → Hp → Prop), Q true H' → tt ((wipe σ vs).set sl (some x)) H' Q) (he : ∀ (i : Nat) x y H' (Q : VK), xs[i]? = some x → zs[i]? = some y → Same H1 H' → (∀ H2, Same H' H2 → Q (.str y) H2) → te ((wipe σ vs).set sl (some x)) H' Q)
    (hd : ∀ H', Same H1 H' → H' D = some (.lst (zs.map V.str)) → Qd H') :
    ∃ W : Nat → Nat → Hp → Prop, (∃ m, W 0 m (upd H1 D (.lst []))) ∧ ∀ i m H, W i m H →
      ((Itl K a).stop i H ∧ Qd H) ∨ ((Itl K a).go i H ∧ ∃ Nx : Hp → Prop, (∀ H', Nx H' → ∃ m', m' < m ∧ W (i + 1) m' H') ∧ ∀ x H', (Itl K a).yld i H x H' → gName sl x (wipe σ vs) H' fun σ2 H2 => wipe σ2 vs = wipe σ vs ∧ tt σ2 H2 fun b H3 =>
        if b = true then te σ2 H3 fun y H4 => ∃ acc, H4 D = some (.lst acc) ∧ acc.length < sizeLine ∧ Nx (upd H4 D (.lst (acc ++ [y]))) else Nx H3) := by
  refine lc_list (K := K) (a := a) (xs := xs) (fun i H' => Same H1 H' ∧ H' D = some (.lst ((zs.take i).map V.str))) ⟨same_new hD, upd_same⟩ (fun i H' _ ⟨s, _⟩ => SqL.ext hT s) ?_ ?_
  · rintro i x H' hx ⟨s, g⟩
    have hi : i < zs.length := by
      rw [hz]
      exact (List.getElem?_eq_some_iff.mp hx).1
    have hy : zs[i]? = some (zs[i]'hi) := List.getElem?_eq_getElem hi
    have tm := take_more hy
    refine ⟨hw x, ht x H' _ ?_⟩
    refine iteT ?_
    refine he i x _ H' _ hx hy s fun H2 s2 => ?_
    refine ⟨_, s2 _ _ g, ?_, fun b o e' => ?_, ?_⟩
    · exact Nat.lt_of_le_of_lt (show ((zs.take i).map V.str).length ≤ 10000 by rw [List.length_map, List.length_take]; omega) (by decide)
    · rw [upd_ne (ne_of_none e' hD)]
      exact (s.trans s2) _ _ e'
    · rw [upd_same, tm, List.map_append]
      rfl
  · rintro H' ⟨s, g⟩
    rw [← hz, List.take_length] at g
    exact hd H' s g
end
theorem catI {K : PySem.W.Frag} {a b : Addr} {xs ys : List V} {H : Hp} {Q : VK} (ha : SqT K H a xs) (hb : SqT K H b ys) (hz : xs.length + ys.length ≤ 10000) (k : ∀ p H', Same H H' → SqT K H' p (xs ++ ys) → Q (.ref p) H') : rCatA K (.ref a) (.ref b) H Q := by
  refine ⟨a, b, xs, ys, rfl, rfl, ha, hb, Nat.le_trans hz (by decide), fun e => ?_, fun _ e => ?_, fun _ _ p hp => ?_⟩
  · refine k b H (Same.refl H) ?_
    rw [e]
    exact hb
  · refine k a H (Same.refl H) ?_
    rw [e, List.append_nil]
    exact ha
  · exact k p _ (same_new hp) (SqT.of upd_same)
theorem filt_ints (P : V → Bool) (p : Int → Bool) (h : ∀ y, P (.int y) = p y) : ∀ xs : List Int, (xs.map V.int).filter P = (xs.filter p).map V.int
  | [] => rfl
  | x :: r => by
    rw [List.map_cons, List.filter_cons, List.filter_cons, h x, filt_ints P p h r]
    cases p x <;> rfl
theorem swp_inj {g h x y : Int} (e : swp g h x = swp g h y) : x = y := by
  unfold swp at e
  repeat' split at e
  all_goals omega
theorem map_nodup {f : Int → Int} (hf : ∀ x y, f x = f y → x = y) : ∀ {xs : List Int}, xs.Nodup → (xs.map f).Nodup
  | [], _ => List.nodup_nil
  | x :: r, h => by
    rw [List.nodup_cons] at h
    rw [List.map_cons, List.nodup_cons]
    exact ⟨fun hm => by
      obtain ⟨y, hy, e⟩ := List.mem_map.mp hm
      exact h.1 (hf _ _ e ▸ hy), map_nodup hf h.2⟩
theorem swp_rng {g h x : Int} (hg : 1 ≤ g ∧ g ≤ 4) (hh : 1 ≤ h ∧ h ≤ 4) (hx : 1 ≤ x ∧ x ≤ 4) : 1 ≤ swp g h x ∧ swp g h x ≤ 4 := by
  unfold swp
  split
  · exact hh
  · split
    · exact hg
    · exact hx
/-- what is known is right -/
structure KnOk (kn : Kn) : Prop where
  nd : (kn.map (·.1)).Nodup
  gs : ∀ p ∈ kn, GsOk p.2
theorem KnOk.at {kn : Kn} (h : KnOk kn) {a : Str} {gs : List Int} (e : glk kn a = some gs) : GsOk gs := h.gs _ (glk_some e)
def FrmOk (kn : Kn) : Frm → Prop
  | .one gs => GsOk gs
  | .road k g h => IsNm k ∧ (1 ≤ g ∧ g ≤ 4) ∧ 1 ≤ h ∧ h ≤ 4
  | .prod a b => (∃ g, glk kn a = some g) ∧ ∃ g, glk kn b = some g
  | .close g a => ∃ gs, glk kn a = some gs ∧ g ∈ gs
  | .turn g h a => g ≠ h ∧ (1 ≤ g ∧ g ≤ 4) ∧ (1 ≤ h ∧ h ≤ 4) ∧ ∃ gs, glk kn a = some gs ∧ (g ∈ gs ∨ h ∈ gs)
  | .add fs => fs ≠ [] ∧ fs.length ≤ 4 ∧ (∀ f ∈ fs, FacOk f.1) ∧ ∃ gs, ∀ f ∈ fs, glk kn f.2 = some gs
/-- .. whatever the factors are -/
def FrmW (kn : Kn) : Frm → Prop
  | .one gs => GsOk gs
  | .road _ g h => (1 ≤ g ∧ g ≤ 4) ∧ 1 ≤ h ∧ h ≤ 4
  | .prod a b => (∃ g, glk kn a = some g) ∧ ∃ g, glk kn b = some g
  | .close g a => ∃ gs, glk kn a = some gs ∧ g ∈ gs
  | .turn g h a => g ≠ h ∧ (1 ≤ g ∧ g ≤ 4) ∧ (1 ≤ h ∧ h ≤ 4) ∧ ∃ gs, glk kn a = some gs ∧ (g ∈ gs ∨ h ∈ gs)
  | .add fs => fs ≠ [] ∧ ∃ gs, ∀ f ∈ fs, glk kn f.2 = some gs
theorem FrmOk.w {kn : Kn} : ∀ {f : Frm}, FrmOk kn f → FrmW kn f
  | .one _, h => h
  | .road _ _ _, ⟨_, h⟩ => h
  | .prod _ _, h => h
  | .close _ _, h => h
  | .turn _ _ _, h => h
  | .add _, ⟨h1, _, _, h2⟩ => ⟨h1, h2⟩
theorem FrmW.gsok {kn : Kn} (hk : KnOk kn) : ∀ {f : Frm}, FrmW kn f → GsOk (f.gates kn)
  | .one gs, h => h
  | .road k g h, _ => asc4_ok _
  | .prod a b, _ => asc4_ok _
  | .close g a, ⟨gs, e, _⟩ => by
    show GsOk (((glk kn a).getD []).filter _)
    rw [e]
    exact (hk.at e).filter _
  | .turn g h a, _ => asc4_ok _
  | .add fs, ⟨hn, gs, h⟩ => by
    cases fs with
    | nil => exact absurd rfl hn
    | cons f r =>
      show GsOk ((glk kn f.2).getD [])
      rw [h f List.mem_cons_self]
      exact hk.at (h f List.mem_cons_self)
theorem FrmOk.gsok {kn : Kn} (hk : KnOk kn) : ∀ {f : Frm}, FrmOk kn f → GsOk (f.gates kn)
  | .one gs, h => h
  | .road k g h, _ => asc4_ok _
  | .prod a b, _ => asc4_ok _
  | .close g a, ⟨gs, e, _⟩ => by
    show GsOk (((glk kn a).getD []).filter _)
    rw [e]
    exact (hk.at e).filter _
  | .turn g h a, _ => asc4_ok _
  | .add fs, ⟨hn, _, _, gs, h⟩ => by
    cases fs with
    | nil => exact absurd rfl hn
    | cons f r =>
      show GsOk ((glk kn f.2).getD [])
      rw [h f List.mem_cons_self]
      exact hk.at (h f List.mem_cons_self)
end OG
set_option Elab.async false
set_option linter.all false
set_option maxRecDepth 100000
set_option maxHeartbeats 8000000
namespace OG
open PySem PySem.Spec PyProof.Rows L2
section
variable {P : Program} {w : World} {K : PySem.W.Frag} {mg : Str → Option Value} {base : Heap}
theorem asc4_len (p : Int → Bool) : (asc4 p).length ≤ 4 := (asc4_ok p).len
def swD (g h : Int) : List (Key × V) := [(.inl g, .int h), (.inl h, .int g)]
def swF (g h : Int) : V → V
  | .int i => (valV (swD g h) (.inl i)).getD (.int i)
  | v => v
theorem swF_int (g h x : Int) : swF g h (.int x) = .int (swp g h x) := by
  show (valV (swD g h) (.inl x)).getD (.int x) = _
  unfold swp swD
  by_cases e1 : x = g
  · rw [valV_pos (by rw [e1]), if_pos e1]
    rfl
  · rw [valV_neg (fun z => e1 (Sum.inl.inj z).symm), if_neg e1]
    by_cases e2 : x = h
    · rw [valV_pos (by rw [e2]), if_pos e2]
      rfl
    · rw [valV_neg (fun z => e2 (Sum.inl.inj z).symm), if_neg e2]
      rfl
theorem swF_map (g h : Int) : ∀ xs : List Int, (xs.map V.int).map (swF g h) = (xs.map (swp g h)).map V.int
  | [] => rfl
  | x :: r => by rw [List.map_cons, List.map_cons, List.map_cons, List.map_cons, swF_int, swF_map g h r]
theorem swD_merge {g h : Int} (n : g ≠ h) : mergeK [] (swD g h) = swD g h := by
  show putK (putK [] (.inl g) (.int h)) (.inl h) (.int g) = swD g h
  show (if (([(.inl g, .int h)] : List (Key × V)).any fun kv => decide (kv.1 = .inl h)) = true then _ else _) = swD g h
  rw [if_neg]
  · rfl
  · simp only [List.any_cons, List.any_nil, Bool.or_false, decide_eq_true_eq]
    exact fun e => n (Sum.inl.inj e)
theorem lt_le_nd : ∀ {ns : List Int}, ns.Pairwise (· < ·) → ns.Nodup := fun h => h.imp fun h e => by omega
theorem swp_sorted {gs ns : List Int} {g h : Int} (ok : GsOk gs) (hg : 1 ≤ g ∧ g ≤ 4) (hh : 1 ≤ h ∧ h ≤ 4) (pm : ns.Perm (gs.map (swp g h))) (hs : ns.Pairwise (· ≤ ·)) : ns = asc4 fun x => decide (x ∈ gs.map (swp g h)) := by
  have nd : ns.Nodup := pm.nodup_iff.mpr (map_nodup (fun _ _ => swp_inj) (lt_le_nd ok.asc))
  refine asc_ext (le_lt_nd hs nd) (asc4_ok _).asc fun x => ?_
  rw [mem_asc4, decide_eq_true_eq, pm.mem_iff]
  refine ⟨fun hx => ⟨?_, hx⟩, fun h => h.2⟩
  obtain ⟨y, hy, rfl⟩ := List.mem_map.mp hx
  exact swp_rng hg hh (ok.rng y hy)
def spLGates (K : PySem.W.Frag) : Sp := fun vs H Q _ => ∃ (kd pt : Addr) (kn : Kn) (kvs : List (Key × V)) (f : Frm), vs = [.ref kd, .str f.word, .ref pt] ∧ H kd = some (.dK kvs) ∧ KnD K H kvs kn ∧ KnOk kn ∧ FrmW kn f ∧
  Td K H (.ref pt) (.tuple f.partsL) ∧ ∀ (v : V) (H' : Hp), Same H H' → Td K H' v (gsD (f.gates kn)) → Q v H'
theorem ok_l_script_line_gates (T : Txt K mg) : FnOk P w K mg base CX0 3 T.f_l_script_line_gates T.fd_l_script_line_gates ["known", "form", "parts"] (spLGates K) := by
  refine T.F_l_script_line_gates.ok sc_l_script_line_gates (fun vs H Q E h => ?_) (fun cdv A outer s H vs Q E hr h => ?_)
  · obtain ⟨kd, pt, kn, kvs, f, rfl, _⟩ := h
    rfl
  · obtain ⟨kd, pt, kn, kvs, f, rfl, gk, hkn, hko, hf, hp, q⟩ := h
    refine ⟨_, (pss_cons (ps_if (pt_cmpR op_eq (pv 1) pe_str (nomark _)) (pss_one (ps_ret (pe_callTy call_tuple_of (by rfl) T.n_tuple (by decide +kernel) (pa_cons (pv 2) pa_nil)))) pss_nil)
  (pss_cons (ps_if (pt_cmpR op_eq (pv 1) pe_str (nomark _)) (pss_one (ps_ret (pe_callTy call_tuple_of (by rfl) T.n_tuple (by decide +kernel) (pa_cons (pe_lc (own := [("gate", 5)]) (g := gName 5) (by rfl) sc_l_script_line_gates.nd (pi_tup (pe_tup (pa_cons pe_int (pa_cons pe_int (pa_cons pe_int (pa_cons pe_int pa_nil)))))) (blkOk_by (own := [("gate", 5)]) (by rfl)) (fun _ _ _ _ _ => (pg_name (i := 5) sc_l_script_line_gates.nd rfl (Or.inl rfl))) (fun _ _ _ _ _ => (pts_one (pt_cmpR (op_in_seqK K) (pv 5) (pe_slice (sl_tupAK K) (pv 2) (po_some pe_int) po_none) rfl))) (fun _ _ _ _ _ => (pv 5))) pa_nil)))) pss_nil)
  (pss_cons (ps_if (pt_cmpR op_eq (pv 1) pe_str (nomark _)) (pss_cons (ps_set (i := 3) sc_l_script_line_gates.nd rfl (Or.inr rfl) (pe_op op_catA (pe_dget (hu_of hr) (pv 0) (pe_ix ix_tup (pv 2) pe_int (fun _ _ => rfl)) (fun _ _ => rfl)) (pe_dget (hu_of hr) (pv 0) (pe_ix ix_tup (pv 2) pe_int (fun _ _ => rfl)) (fun _ _ => rfl))))
  (pss_one (ps_ret (pe_callTy call_tuple_of (by rfl) T.n_tuple (by decide +kernel) (pa_cons (pe_lc (own := [("gate", 5)]) (g := gName 5) (by rfl) sc_l_script_line_gates.nd (pi_tup (pe_tup (pa_cons pe_int (pa_cons pe_int (pa_cons pe_int (pa_cons pe_int pa_nil)))))) (blkOk_by (own := [("gate", 5)]) (by rfl)) (fun _ _ _ _ _ => (pg_name (i := 5) sc_l_script_line_gates.nd rfl (Or.inl rfl))) (fun _ _ _ _ _ => (pts_one (pt_cmpR (op_in_seqK K) (pv 5) (pv 3) rfl))) (fun _ _ _ _ _ => (pv 5))) pa_nil))))) pss_nil)
  (pss_cons (ps_if (pt_cmpR op_eq (pv 1) pe_str (nomark _)) (pss_one (ps_ret (pe_callTy call_tuple_of (by rfl) T.n_tuple (by decide +kernel) (pa_cons (pe_lc (own := [("gate", 5)]) (g := gName 5) (by rfl) sc_l_script_line_gates.nd (pi_tup (pe_dget (hu_of hr) (pv 0) (pe_ix ix_tup (pv 2) pe_int (fun _ _ => rfl)) (fun _ _ => rfl))) (blkOk_by (own := [("gate", 5)]) (by rfl)) (fun _ _ _ _ _ => (pg_name (i := 5) sc_l_script_line_gates.nd rfl (Or.inl rfl))) (fun _ _ _ _ _ => (pts_one (pt_cmpR op_ne (pv 5) (pe_ix (ix_tupK K) (pv 2) pe_int (fun _ _ => rfl)) (nomark _)))) (fun _ _ _ _ _ => (pv 5))) pa_nil)))) pss_nil)
  (pss_cons (ps_if (pt_cmpR op_eq (pv 1) pe_str (nomark _)) (pss_cons (ps_set (i := 4) sc_l_script_line_gates.nd rfl (Or.inr rfl) (pe_disp (pps_cons (pe_ix ix_tup (pv 2) pe_int (fun _ _ => rfl)) (pe_ix ix_tup (pv 2) pe_int (fun _ _ => rfl)) (pps_cons (pe_ix ix_tup (pv 2) pe_int (fun _ _ => rfl)) (pe_ix ix_tup (pv 2) pe_int (fun _ _ => rfl)) pps_nil)) (by rfl) (by rfl) (fun z => by cases z) (by decide)))
  (pss_one (ps_ret (pe_callTy call_tuple_of (by rfl) T.n_tuple (by decide +kernel) (pa_cons (pe_callB cr_sorted (by rfl) T.n_sorted (by decide +kernel) (pa_cons (pe_lc (own := [("gate", 5)]) (g := gName 5) (by rfl) sc_l_script_line_gates.nd (pi_tup (pe_dget (hu_of hr) (pv 0) (pe_ix ix_tup (pv 2) pe_int (fun _ _ => rfl)) (fun _ _ => rfl))) (blkOk_by (own := [("gate", 5)]) (by rfl)) (fun _ _ _ _ _ => (pg_name (i := 5) sc_l_script_line_gates.nd rfl (Or.inl rfl))) (fun _ _ _ _ _ => pts_nil) (fun _ _ _ _ _ => (pe_dget2 (hu_of hr) (pv 4) (pv 5) (pv 5) ⟨rfl, rfl, rfl, rfl⟩))) pa_nil)) pa_nil))))) pss_nil)
  (pss_one (ps_ret (pe_dget (hu_of hr) (pv 0) (pe_ix ix_tup (pe_ix ix_tup (pv 2) pe_int (fun _ _ => rfl)) pe_int (fun _ _ => rfl)) (fun _ _ => rfl))))))))), ?_⟩
    have wide : ∀ {n : Nat}, n ≤ 1000 → n ≤ sizeLine := fun h => Nat.le_trans h (by decide)
    obtain ⟨pa, xs, ea, hT, hA⟩ := hp.tupI
    cases ea
    cases f with
    | one gs =>
      refine ⟨_, rfl, rfl, _, rfl, ?_⟩
      refine (show (if decide (V.str _ = V.str _) = true then _ else _) from ifS_eq ?_)
      exact ⟨_, rfl, pt, xs, rfl, .inr ⟨hT, q _ _ (Same.refl H) hp⟩⟩
    | road k g h =>
      have ex : xs = [.str k, .int g, .int h] := by
        obtain ⟨x, r, rfl, h1, hA⟩ := hA.consI
        rw [h1.strI, tdAll_intsI (gs := [g, h]) hA]
        rfl
      subst ex
      refine ⟨_, rfl, rfl, _, rfl, ?_⟩
      refine (show (if decide (V.str _ = V.str _) = true then _ else _) from ifS_ne (by refine decide_eq_false ?_; dsimp only [Frm.word]; decide) ?_)
      refine ⟨_, rfl, rfl, _, rfl, ?_⟩
      refine (show (if decide (V.str _ = V.str _) = true then _ else _) from ifS_eq ?_)
      refine ⟨wide (show 4 ≤ 1000 by decide), fun a ha => ?_⟩
      have s1 := same_new (o := .tup (([1, 2, 3, 4] : List Int).map V.int)) ha
      have ga : (upd H a (.tup (([1, 2, 3, 4] : List Int).map V.int))) a = some (.tup (([1, 2, 3, 4] : List Int).map V.int)) := upd_same
      have e1 : upd H a (.tup [.int 1, .int 2, .int 3, .int 4]) = upd H a (.tup (([1, 2, 3, 4] : List Int).map V.int)) := rfl
      rw [e1]
      generalize upd H a (.tup (([1, 2, 3, 4] : List Int).map V.int)) = H1 at *
      refine ⟨a, rfl, ⟨_, SqT.of ga⟩, fun D hD => ?_⟩
      refine lc_filtT (K := K) (a := a) (xs := ([1, 2, 3, 4] : List Int).map V.int) (fun v => inV v (([g, h] : List Int).map V.int)) (by decide) hD (SqT.of ga) (fun _ => rfl) (fun x H' Q hx s2 k => ?_) (fun x H' Q k => ⟨_, rfl, k⟩) (fun H' s2 gD => ?_)
      · obtain ⟨y, _, rfl⟩ := List.mem_map.mp hx
        refine ⟨_, rfl, _, rfl, _, rfl, pt, _, rfl, SqT.tk hT (Same.tk (s1.trans s2)), fun hw => absurd hw.1 (by show ¬ (HT.sIx 3 0 (some 1) = 0); decide), fun _ p hp => ?_⟩
        refine ⟨p, ([g, h] : List Int).map V.int, rfl, .inr (SqT.of upd_same), rfl, flat_ints _, _, rfl, k _ (same_new hp)⟩
      · rw [filt_ints _ (fun x => decide (x ∈ [g, h])) (fun y => inV_int y _)] at gD
        refine ⟨D, _, rfl, .inl ⟨SqL.of gD, fun t ht => ?_⟩⟩
        exact q _ _ ((s1.trans s2).trans (same_new ht)) (td_gs (gs := asc4 fun x => decide (x ∈ [g, h])) (SqT.of upd_same))
    | prod a b =>
      have ex : xs = [.str a, .str b] := by
        obtain ⟨x, r, rfl, h1, hA⟩ := hA.consI
        obtain ⟨y, r, rfl, h2, hA⟩ := hA.consI
        rw [h1.strI, h2.strI, hA.nilI]
      subst ex
      obtain ⟨⟨ga, ea⟩, gb, eb⟩ := hf
      obtain ⟨va, va1, va2⟩ := hkn.get ea
      obtain ⟨vb, vb1, vb2⟩ := hkn.get eb
      obtain ⟨aa, rfl, va3⟩ := va2.gs
      obtain ⟨ab, rfl, vb3⟩ := vb2.gs
      have la := (hko.at ea).len
      have lb := (hko.at eb).len
      refine ⟨_, rfl, rfl, _, rfl, ?_⟩
      refine (show (if decide (V.str _ = V.str _) = true then _ else _) from ifS_ne (by refine decide_eq_false ?_; dsimp only [Frm.word]; decide) ?_)
      refine ⟨_, rfl, rfl, _, rfl, ?_⟩
      refine (show (if decide (V.str _ = V.str _) = true then _ else _) from ifS_ne (by refine decide_eq_false ?_; dsimp only [Frm.word]; decide) ?_)
      refine ⟨_, rfl, rfl, _, rfl, ?_⟩
      refine (show (if decide (V.str _ = V.str _) = true then _ else _) from ifS_eq ?_)
      refine ⟨_, rfl, _, rfl, pt, _, 0, .str a, rfl, rfl, hT, rfl, kd, .ref aa, rfl, .inl ⟨_, .inr a, .inl gk, rfl, va1.symm⟩, ?_⟩
      refine ⟨_, rfl, _, rfl, pt, _, 1, .str b, rfl, rfl, hT, rfl, kd, .ref ab, rfl, .inl ⟨_, .inr b, .inl gk, rfl, vb1.symm⟩, ?_⟩
      refine catI (K := K) va3 vb3 (by rw [List.length_map, List.length_map]; omega) fun bt H0 s0 g0 => ?_
      rw [← List.map_append] at g0
      refine ⟨wide (show 4 ≤ 1000 by decide), fun t4 ha => ?_⟩
      have s1 := s0.trans (same_new (o := .tup (([1, 2, 3, 4] : List Int).map V.int)) ha)
      have g1 := SqT.tk g0 (Same.tk (same_new (o := .tup (([1, 2, 3, 4] : List Int).map V.int)) ha))
      have g4 : (upd H0 t4 (.tup (([1, 2, 3, 4] : List Int).map V.int))) t4 = some (.tup (([1, 2, 3, 4] : List Int).map V.int)) := upd_same
      have e1 : upd H0 t4 (.tup [.int 1, .int 2, .int 3, .int 4]) = upd H0 t4 (.tup (([1, 2, 3, 4] : List Int).map V.int)) := rfl
      rw [e1]
      generalize upd H0 t4 (.tup (([1, 2, 3, 4] : List Int).map V.int)) = H1 at *
      refine ⟨t4, rfl, ⟨_, SqT.of g4⟩, fun D hD => ?_⟩
      refine lc_filtT (K := K) (a := t4) (xs := ([1, 2, 3, 4] : List Int).map V.int) (fun v => inV v ((ga ++ gb).map V.int)) (by decide) hD (SqT.of g4) (fun _ => rfl) (fun x H' Q hx s2 k => ?_) (fun x H' Q k => ⟨_, rfl, k⟩) (fun H' s2 gD => ?_)
      · obtain ⟨y, _, rfl⟩ := List.mem_map.mp hx
        exact ⟨_, rfl, _, rfl, bt, _, rfl, .inr (SqT.tk g1 (Same.tk s2)), rfl, flat_ints _, _, rfl, k _ (Same.refl _)⟩
      · rw [filt_ints _ (fun x => decide (x ∈ ga ++ gb)) (fun y => inV_int y _)] at gD
        refine ⟨D, _, rfl, .inl ⟨SqL.of gD, fun t ht => ?_⟩⟩
        refine q _ _ ((s1.trans s2).trans (same_new ht)) ?_
        show Td K _ _ (gsD (asc4 fun x => decide (x ∈ (glk kn a).getD [] ++ (glk kn b).getD [])))
        rw [ea, eb]
        exact td_gs (SqT.of upd_same)
    | close g a =>
      have ex : xs = [.int g, .str a] := by
        obtain ⟨x, r, rfl, h1, hA⟩ := hA.consI
        obtain ⟨y, r, rfl, h2, hA⟩ := hA.consI
        rw [h1.intI, h2.strI, hA.nilI]
      subst ex
      obtain ⟨ga, ea, _⟩ := hf
      obtain ⟨va, va1, va2⟩ := hkn.get ea
      obtain ⟨aa, rfl, va3⟩ := va2.gs
      have la := (hko.at ea).len
      refine ⟨_, rfl, rfl, _, rfl, ?_⟩
      refine (show (if decide (V.str _ = V.str _) = true then _ else _) from ifS_ne (by refine decide_eq_false ?_; dsimp only [Frm.word]; decide) ?_)
      refine ⟨_, rfl, rfl, _, rfl, ?_⟩
      refine (show (if decide (V.str _ = V.str _) = true then _ else _) from ifS_ne (by refine decide_eq_false ?_; dsimp only [Frm.word]; decide) ?_)
      refine ⟨_, rfl, rfl, _, rfl, ?_⟩
      refine (show (if decide (V.str _ = V.str _) = true then _ else _) from ifS_ne (by refine decide_eq_false ?_; dsimp only [Frm.word]; decide) ?_)
      refine ⟨_, rfl, rfl, _, rfl, ?_⟩
      refine (show (if decide (V.str _ = V.str _) = true then _ else _) from ifS_eq ?_)
      refine ⟨_, rfl, _, rfl, pt, _, 1, .str a, rfl, rfl, hT, rfl, kd, .ref aa, rfl, .inl ⟨_, .inr a, .inl gk, rfl, va1.symm⟩, aa, rfl, ⟨_, va3⟩, fun D hD => ?_⟩
      refine lc_filtT (K := K) (a := aa) (xs := ga.map V.int) (fun v => !decide (v = .int g)) (by rw [List.length_map]; omega) hD va3 (fun _ => rfl) (fun x H' Q hx s2 k => ?_) (fun x H' Q k => ⟨_, rfl, k⟩) (fun H' s2 gD => ?_)
      · obtain ⟨y, _, rfl⟩ := List.mem_map.mp hx
        exact ⟨_, rfl, _, rfl, pt, _, 0, .int g, rfl, rfl, SqT.tk hT (Same.tk s2), rfl, rfl, _, rfl, k _ (Same.refl _)⟩
      · rw [filt_ints _ (fun x => !decide (x = g)) (fun y => by rw [show decide (V.int y = V.int g) = decide (y = g) from decide_eq_decide.mpr ⟨V.int.inj, congrArg V.int⟩])] at gD
        refine ⟨D, _, rfl, .inl ⟨SqL.of gD, fun t ht => ?_⟩⟩
        refine q _ _ (s2.trans (same_new ht)) ?_
        show Td K _ _ (gsD (((glk kn a).getD []).filter fun x => !decide (x = g)))
        rw [ea]
        exact td_gs (SqT.of upd_same)
    | turn g h a =>
      have ex : xs = [.int g, .int h, .str a] := by
        obtain ⟨x, r, rfl, h1, hA⟩ := hA.consI
        obtain ⟨y, r, rfl, h2, hA⟩ := hA.consI
        obtain ⟨z, r, rfl, h3, hA⟩ := hA.consI
        rw [h1.intI, h2.intI, h3.strI, hA.nilI]
      subst ex
      obtain ⟨hgh, hg, hh, ga, ea, _⟩ := hf
      obtain ⟨va, va1, va2⟩ := hkn.get ea
      obtain ⟨aa, rfl, va3⟩ := va2.gs
      have la := (hko.at ea).len
      refine ⟨_, rfl, rfl, _, rfl, ?_⟩
      refine (show (if decide (V.str _ = V.str _) = true then _ else _) from ifS_ne (by refine decide_eq_false ?_; dsimp only [Frm.word]; decide) ?_)
      refine ⟨_, rfl, rfl, _, rfl, ?_⟩
      refine (show (if decide (V.str _ = V.str _) = true then _ else _) from ifS_ne (by refine decide_eq_false ?_; dsimp only [Frm.word]; decide) ?_)
      refine ⟨_, rfl, rfl, _, rfl, ?_⟩
      refine (show (if decide (V.str _ = V.str _) = true then _ else _) from ifS_ne (by refine decide_eq_false ?_; dsimp only [Frm.word]; decide) ?_)
      refine ⟨_, rfl, rfl, _, rfl, ?_⟩
      refine (show (if decide (V.str _ = V.str _) = true then _ else _) from ifS_ne (by refine decide_eq_false ?_; dsimp only [Frm.word]; decide) ?_)
      refine ⟨_, rfl, rfl, _, rfl, ?_⟩
      refine (show (if decide (V.str _ = V.str _) = true then _ else _) from ifS_eq ?_)
      refine fun d hd => ?_
      have s0 := same_new (o := .dK []) hd
      have hT0 := SqT.tk hT (Same.tk s0)
      refine ⟨_, rfl, pt, _, 0, .int g, rfl, rfl, hT0, rfl, _, rfl, pt, _, 1, .int h, rfl, rfl, hT0, rfl, _, rfl, pt, _, 1, .int h, rfl, rfl, hT0, rfl, _, rfl, pt, _, 0, .int g, rfl, rfl, hT0, rfl, ?_⟩
      refine ⟨upd_same, (swD g h), rfl, by show 2 ≤ 15; decide, ?_⟩
      have em : mergeK [] (swD g h) = swD g h := by
        exact swD_merge hgh
      rw [em]
      have s1 : Same H (upd (upd H d (.dK [])) d (.dK (swD g h))) := fun b o e => by
        rw [upd_ne (ne_of_none e hd), upd_ne (ne_of_none e hd)]
        exact e
      have g1 : (upd (upd H d (.dK [])) d (.dK (swD g h))) d = some (.dK (swD g h)) := upd_same
      generalize upd (upd H d (.dK [])) d (.dK (swD g h)) = H1 at *
      have hT1 := SqT.tk hT (Same.tk s1)
      have va4 := SqT.tk va3 (Same.tk s1)
      refine ⟨_, rfl, _, rfl, pt, _, 2, .str a, rfl, rfl, hT1, rfl, kd, .ref aa, rfl, .inl ⟨_, .inr a, .inl (s1 _ _ gk), rfl, va1.symm⟩, aa, rfl, ⟨_, va4⟩, fun D hD => ?_⟩
      refine lc_mapT (K := K) (a := aa) (xs := ga.map V.int) (swF g h) (by rw [List.length_map]; omega) hD va4 (fun _ => rfl) (fun x H' Q k => k) (fun x H' Q hx s2 k => ?_) (fun H' s2 gD => ?_)
      · obtain ⟨y, _, rfl⟩ := List.mem_map.mp hx
        exact ⟨_, rfl, d, rfl, .inl ⟨_, .inl (s2 _ _ g1)⟩, _, rfl, _, rfl, _, .inl ⟨_, .inl y, .inl (s2 _ _ g1), rfl, rfl⟩, k _ (Same.refl _)⟩
      · have ef : (ga.map V.int).map (swF g h) = (ga.map (swp g h)).map V.int := by
          exact swF_map g h ga
        rw [ef] at gD
        refine ⟨D, ga.map (swp g h), rfl, SqL.of gD, by rw [List.length_map]; omega, fun ns L pm hs hL => ?_⟩
        refine ⟨L, _, rfl, .inl ⟨SqL.of upd_same, fun t ht => ?_⟩⟩
        refine q _ _ (((s1.trans s2).trans (same_new hL)).trans (same_new ht)) ?_
        show Td K _ _ (gsD (asc4 fun x => decide (x ∈ ((glk kn a).getD []).map (swp g h))))
        rw [ea]
        have en : ns = asc4 fun x => decide (x ∈ ((some ga).getD []).map (swp g h)) := by
          exact swp_sorted (hko.at ea) hg hh pm hs
        rw [← en]
        exact td_gs (SqT.of upd_same)
    | add fs =>
      obtain ⟨hn, gs, hfs⟩ := hf
      cases fs with
      | nil => exact absurd rfl hn
      | cons f r =>
        have ef := hfs f List.mem_cons_self
        obtain ⟨x, r', rfl, h1, hA⟩ := hA.consI
        obtain ⟨p0, ys, rfl, hT0, hA0⟩ := h1.tupI
        obtain ⟨y, r2, rfl, h2, hA0⟩ := hA0.consI
        obtain ⟨z, r3, rfl, h3, hA1⟩ := hA0.consI
        cases h3.strI
        cases hA1.nilI
        obtain ⟨va, va1, va2⟩ := hkn.get ef
        refine ⟨_, rfl, rfl, _, rfl, ?_⟩
        refine (show (if decide (V.str _ = V.str _) = true then _ else _) from ifS_ne (by refine decide_eq_false ?_; dsimp only [Frm.word]; decide) ?_)
        refine ⟨_, rfl, rfl, _, rfl, ?_⟩
        refine (show (if decide (V.str _ = V.str _) = true then _ else _) from ifS_ne (by refine decide_eq_false ?_; dsimp only [Frm.word]; decide) ?_)
        refine ⟨_, rfl, rfl, _, rfl, ?_⟩
        refine (show (if decide (V.str _ = V.str _) = true then _ else _) from ifS_ne (by refine decide_eq_false ?_; dsimp only [Frm.word]; decide) ?_)
        refine ⟨_, rfl, rfl, _, rfl, ?_⟩
        refine (show (if decide (V.str _ = V.str _) = true then _ else _) from ifS_ne (by refine decide_eq_false ?_; dsimp only [Frm.word]; decide) ?_)
        refine ⟨_, rfl, rfl, _, rfl, ?_⟩
        refine (show (if decide (V.str _ = V.str _) = true then _ else _) from ifS_ne (by refine decide_eq_false ?_; dsimp only [Frm.word]; decide) ?_)
        refine ⟨_, rfl, _, rfl, pt, _, 0, .ref p0, rfl, rfl, hT, atI_nat (j := 0) rfl, p0, _, 1, .str f.2, rfl, rfl, hT0, rfl, kd, va, rfl, .inl ⟨_, .inr f.2, .inl gk, rfl, va1.symm⟩, q _ _ (Same.refl H) ?_⟩
        show Td K _ _ (gsD ((glk kn f.2).getD []))
        rw [ef]
        exact va2
end
end OG
set_option Elab.async false
set_option linter.all false
set_option maxRecDepth 100000
set_option maxHeartbeats 8000000
namespace OG
open PySem PySem.Spec PyProof.Rows L2
/-- a line that can stand behind what is known -/
structure LnOk (kn : Kn) (l : Ln) : Prop where
  new : l.nm ∉ kn.map (·.1)
  nm : lnmB l.nm = true
  fm : FrmOk kn l.fm
def LnsOk : Kn → List Ln → Prop
  | _, [] => True
  | kn, l :: r => LnOk kn l ∧ LnsOk (kn ++ [(l.nm, l.fm.gates kn)]) r
theorem knOf_snoc : ∀ {kn : Kn} {xs : List Ln} {l : Ln}, knOf kn (xs ++ [l]) = knOf kn xs ++ [(l.nm, l.fm.gates (knOf kn xs))]
  | kn, [], l => rfl
  | kn, x :: r, l => knOf_snoc (kn := kn ++ [(x.nm, x.fm.gates kn)]) (xs := r)
theorem knOf_take {kn : Kn} {xs : List Ln} {i : Nat} {l : Ln} (h : xs[i]? = some l) : knOf kn (xs.take (i + 1)) = knOf kn (xs.take i) ++ [(l.nm, l.fm.gates (knOf kn (xs.take i)))] := by
  rw [take_more h]
  exact knOf_snoc
theorem LnsOk.at : ∀ {kn : Kn} {xs : List Ln} {i : Nat} {l : Ln}, LnsOk kn xs → xs[i]? = some l → LnOk (knOf kn (xs.take i)) l
  | kn, [], i, l, _, h => by simp at h
  | kn, x :: r, 0, l, h, e => by
    cases Option.some.inj e
    exact h.1
  | kn, x :: r, i + 1, l, h, e => LnsOk.at (kn := kn ++ [(x.nm, x.fm.gates kn)]) (xs := r) (i := i) h.2 e
theorem LnsOk.snoc : ∀ {kn : Kn} {xs : List Ln} {l : Ln}, LnsOk kn xs → LnOk (knOf kn xs) l → LnsOk kn (xs ++ [l])
  | kn, [], l, _, h => ⟨h, trivial⟩
  | kn, x :: r, l, h, e => ⟨h.1, LnsOk.snoc (kn := kn ++ [(x.nm, x.fm.gates kn)]) (xs := r) h.2 e⟩
theorem LnsOk.take : ∀ {kn : Kn} {xs : List Ln} (i : Nat), LnsOk kn xs → LnsOk kn (xs.take i)
  | kn, [], i, _ => by rw [List.take_nil]; trivial
  | kn, x :: r, 0, h => trivial
  | kn, x :: r, i + 1, h => ⟨h.1, LnsOk.take (kn := kn ++ [(x.nm, x.fm.gates kn)]) (xs := r) i h.2⟩
theorem KnOk.snoc {kn : Kn} {l : Ln} (h : KnOk kn) (o : LnOk kn l) : KnOk (kn ++ [(l.nm, l.fm.gates kn)]) := by
  refine ⟨?_, fun p hp => ?_⟩
  · rw [List.map_append, List.nodup_append]
    refine ⟨h.nd, by simp, fun a ha b hb e => ?_⟩
    have hb : b = l.nm := by simpa using hb
    subst hb
    subst e
    exact o.new ha
  · rcases List.mem_append.mp hp with hp | hp
    · exact h.gs p hp
    · rw [List.mem_singleton.mp hp]
      exact o.fm.gsok h
theorem KnOk.of : ∀ {kn : Kn} {xs : List Ln}, KnOk kn → LnsOk kn xs → KnOk (knOf kn xs)
  | kn, [], h, _ => h
  | kn, x :: r, h, o => KnOk.of (kn := kn ++ [(x.nm, x.fm.gates kn)]) (xs := r) (h.snoc o.1) o.2
theorem KnOk.nil : KnOk [] := ⟨List.nodup_nil, fun p hp => by cases hp⟩
theorem knOf_names : ∀ {kn : Kn} {xs : List Ln}, (knOf kn xs).map (·.1) = kn.map (·.1) ++ xs.map (·.nm)
  | kn, [] => by rw [List.map_nil, List.append_nil]; rfl
  | kn, x :: r => by
    show (knOf (kn ++ [(x.nm, x.fm.gates kn)]) r).map (·.1) = _
    rw [knOf_names, List.map_append, List.append_assoc]
    rfl
theorem knOf_len {kn : Kn} {xs : List Ln} : (knOf kn xs).length = kn.length + xs.length := by
  have := congrArg List.length (knOf_names (kn := kn) (xs := xs))
  rw [List.length_map, List.length_append, List.length_map, List.length_map] at this
  exact this
theorem knOf_pre : ∀ {kn : Kn} {xs : List Ln}, ∃ t, knOf kn xs = kn ++ t
  | kn, [] => ⟨[], (List.append_nil kn).symm⟩
  | kn, x :: r => by
    obtain ⟨t, e⟩ := knOf_pre (kn := kn ++ [(x.nm, x.fm.gates kn)]) (xs := r)
    exact ⟨_, e.trans (List.append_assoc _ _ _)⟩
theorem knOf_app : ∀ {kn : Kn} {xs ys : List Ln}, knOf kn (xs ++ ys) = knOf (knOf kn xs) ys
  | kn, [], ys => rfl
  | kn, x :: r, ys => knOf_app (kn := kn ++ [(x.nm, x.fm.gates kn)]) (xs := r)
theorem glk_knOf {xs : List Ln} (ok : LnsOk [] xs) {i : Nat} {l : Ln} (h : xs[i]? = some l) : glk (knOf [] xs) l.nm = some (l.fm.gates (knOf [] (xs.take i))) := by
  refine glk_mem (KnOk.of KnOk.nil ok).nd ?_
  have e : knOf [] xs = knOf (knOf [] (xs.take (i + 1))) (xs.drop (i + 1)) := by rw [← knOf_app, List.take_append_drop]
  obtain ⟨t, et⟩ := knOf_pre (kn := knOf [] (xs.take (i + 1))) (xs := xs.drop (i + 1))
  rw [e, et, knOf_take h]
  exact List.mem_append_left _ (List.mem_append_right _ List.mem_cons_self)
/-! texts -/
def facT (f : Fac) : Str := if f.2 = 1 then istr f.1 else istr f.1 ++ "/" ++ istr f.2
def dW : PyData → List Str
  | .str z => [z]
  | .int i => [istr i]
  | .tuple [.tuple [.int a, .int b], .str z] => [facT (a, b), z]
  | _ => []
def lineW (l : Ln) : List Str := match l.fm with
  | .prod a b => [l.nm, "=", a, "*", b]
  | f => [l.nm, "=", f.word] ++ (f.partsL.map dW).flatten
def lineT (l : Ln) : Str := Txt.join " " (lineW l)
def textT (ls : List Ln) : Str := Txt.join "\n" ("script" :: ls.map lineT)
theorem istr_sml {i : Int} (h : i.natAbs ≤ 1000) : (istr i).length ≤ 14 := istr_len (by omega) (by omega)
theorem facs_short : (allFacs.all fun f => decide ((facT f).length ≤ 8)) = true := by decide +kernel
theorem FacOk.low' {f : Fac} (h : FacOk f) : (facT f).length ≤ 8 := of_decide_eq_true (List.all_eq_true.mp facs_short f h.mem)
def FrmFit : Frm → Prop
  | .one gs => GsOk gs
  | .road k g h => k.length ≤ 8 ∧ (1 ≤ g ∧ g ≤ 4) ∧ 1 ≤ h ∧ h ≤ 4
  | .prod a b => a.length ≤ 8 ∧ b.length ≤ 8
  | .close g a => (1 ≤ g ∧ g ≤ 4) ∧ a.length ≤ 8
  | .turn g h a => (1 ≤ g ∧ g ≤ 4) ∧ (1 ≤ h ∧ h ≤ 4) ∧ a.length ≤ 8
  | .add fs => fs.length ≤ 4 ∧ ∀ f ∈ fs, FacOk f.1 ∧ f.2.length ≤ 8
theorem gs_istr {g : Int} (h : 1 ≤ g ∧ g ≤ 4) : (istr g).length ≤ 8 := by
  have : g = 1 ∨ g = 2 ∨ g = 3 ∨ g = 4 := by omega
  rcases this with rfl | rfl | rfl | rfl <;> decide +kernel
theorem FrmFit.parts {f : Frm} (h : FrmFit f) : f.partsL.length ≤ 4 ∧ ∀ d ∈ f.partsL, (dW d).length ≤ 2 ∧ ∀ z ∈ dW d, z.length ≤ 8 := by
  have one : ∀ {z : Str}, z.length ≤ 8 → (dW (.str z)).length ≤ 2 ∧ ∀ y ∈ dW (.str z), y.length ≤ 8 := fun hz => ⟨by show 1 ≤ 2; decide, fun y hy => by
    rw [List.mem_singleton.mp hy]
    omega⟩
  have int : ∀ {g : Int}, (1 ≤ g ∧ g ≤ 4) → (dW (.int g)).length ≤ 2 ∧ ∀ y ∈ dW (.int g), y.length ≤ 8 := fun hz => ⟨by show 1 ≤ 2; decide, fun y hy => by
    rw [List.mem_singleton.mp hy]
    have := gs_istr hz
    omega⟩
  cases f with
  | one gs =>
    have hg : GsOk gs := h
    have := hg.len
    refine ⟨?_, fun d hd => ?_⟩
    · show (gs.map PyData.int).length ≤ 4
      rw [List.length_map]
      omega
    · obtain ⟨g, hg', rfl⟩ := List.mem_map.mp hd
      exact int (hg.rng g hg')
  | road k g h' =>
    obtain ⟨h1, h2, h3⟩ := h
    refine ⟨by show 3 ≤ 4; decide, fun d hd => ?_⟩
    have hd : d ∈ [PyData.str k, .int g, .int h'] := hd
    simp only [List.mem_cons, List.mem_nil_iff, or_false] at hd
    rcases hd with rfl | rfl | rfl
    · exact one h1
    · exact int h2
    · exact int h3
  | prod a b =>
    obtain ⟨h1, h2⟩ := h
    refine ⟨by show 2 ≤ 4; decide, fun d hd => ?_⟩
    have hd : d ∈ [PyData.str a, .str b] := hd
    simp only [List.mem_cons, List.mem_nil_iff, or_false] at hd
    rcases hd with rfl | rfl
    · exact one h1
    · exact one h2
  | close g a =>
    obtain ⟨h1, h2⟩ := h
    refine ⟨by show 2 ≤ 4; decide, fun d hd => ?_⟩
    have hd : d ∈ [PyData.int g, .str a] := hd
    simp only [List.mem_cons, List.mem_nil_iff, or_false] at hd
    rcases hd with rfl | rfl
    · exact int h1
    · exact one h2
  | turn g h' a =>
    obtain ⟨h1, h2, h3⟩ := h
    refine ⟨by show 3 ≤ 4; decide, fun d hd => ?_⟩
    have hd : d ∈ [PyData.int g, .int h', .str a] := hd
    simp only [List.mem_cons, List.mem_nil_iff, or_false] at hd
    rcases hd with rfl | rfl | rfl
    · exact int h1
    · exact int h2
    · exact one h3
  | add fs =>
    obtain ⟨h1, h2⟩ := h
    refine ⟨?_, fun d hd => ?_⟩
    · show (fs.map fun f => PyData.tuple [facD f.1, .str f.2]).length ≤ 4
      rw [List.length_map]
      exact h1
    · obtain ⟨f, hf, rfl⟩ := List.mem_map.mp hd
      obtain ⟨f1, f2⟩ := h2 f hf
      refine ⟨by show 2 ≤ 2; decide, fun z hz => ?_⟩
      have hz : z ∈ [facT f.1, f.2] := hz
      simp only [List.mem_cons, List.mem_nil_iff, or_false] at hz
      rcases hz with rfl | rfl
      · have := f1.low'
        omega
      · omega
theorem flat2 : ∀ {ds : List PyData} {n : Nat}, ds.length ≤ n → (∀ d ∈ ds, (dW d).length ≤ 2 ∧ ∀ z ∈ dW d, z.length ≤ 8) → ((ds.map dW).flatten).length ≤ 2 * n ∧ ∀ z ∈ (ds.map dW).flatten, z.length ≤ 8
  | [], n, _, _ => ⟨by show 0 ≤ 2 * n; omega, fun z hz => by cases hz⟩
  | d :: r, 0, h, _ => by simp at h
  | d :: r, n + 1, h, hd => by
    have ih := flat2 (ds := r) (n := n) (by simpa using h) fun d hd' => hd d (List.mem_cons_of_mem _ hd')
    have h1 := hd d List.mem_cons_self
    refine ⟨?_, fun z hz => ?_⟩
    · rw [List.map_cons, List.flatten_cons, List.length_append]
      omega
    · rw [List.map_cons, List.flatten_cons] at hz
      rcases List.mem_append.mp hz with hz | hz
      · exact h1.2 z hz
      · exact ih.2 z hz
/-- a line whose text is short -/
structure LnFit (l : Ln) : Prop where
  nm : l.nm.length ≤ 8
  fm : FrmFit l.fm
theorem word_len (f : Frm) : f.word.length ≤ 5 := by cases f <;> (dsimp only [Frm.word]; decide)
theorem LnFit.words {l : Ln} (h : LnFit l) : (lineW l).length ≤ 11 ∧ ∀ z ∈ lineW l, z.length ≤ 8 := by
  have gen : ([l.nm, "=", l.fm.word] ++ (l.fm.partsL.map dW).flatten).length ≤ 11 ∧ ∀ z ∈ [l.nm, "=", l.fm.word] ++ (l.fm.partsL.map dW).flatten, z.length ≤ 8 := by
    have f2 := flat2 h.fm.parts.1 h.fm.parts.2
    refine ⟨?_, fun z hz => ?_⟩
    · rw [List.length_append]
      have := f2.1
      show 3 + _ ≤ 11
      omega
    · rcases List.mem_append.mp hz with hz | hz
      · simp only [List.mem_cons, List.mem_nil_iff, or_false] at hz
        have := h.nm
        have := word_len l.fm
        rcases hz with rfl | rfl | rfl
        · omega
        · decide
        · omega
      · exact f2.2 z hz
  obtain ⟨nm, fm⟩ := l
  cases fm with
  | prod a b =>
    obtain ⟨h0, h1, h2⟩ := h
    have h0 : nm.length ≤ 8 := h0
    refine ⟨by show 5 ≤ 11; decide, fun z hz => ?_⟩
    have hz : z ∈ [nm, "=", a, "*", b] := hz
    simp only [List.mem_cons, List.mem_nil_iff, or_false] at hz
    rcases hz with rfl | rfl | rfl | rfl | rfl
    · omega
    · decide
    · omega
    · decide
    · omega
  | one _ => exact gen
  | road _ _ _ => exact gen
  | close _ _ => exact gen
  | turn _ _ _ => exact gen
  | add _ => exact gen
end OG
set_option Elab.async false
set_option linter.all false
set_option maxRecDepth 100000
set_option maxHeartbeats 8000000
namespace OG
open PySem PySem.Spec PyProof.Rows L2
theorem TdAll.lnAt {K : PySem.W.Frag} {H : Hp} {xs : List V} {lns : List Ln} (h : TdAll K H xs (lns.map Ln.data)) {i : Nat} {x : V} (e : xs[i]? = some x) : ∃ l, lns[i]? = some l ∧ Td K H x l.data := by
  obtain ⟨d, h1, h2⟩ := h.atV e
  rw [List.getElem?_map] at h1
  cases q : lns[i]? with
  | none =>
    rw [q] at h1
    cases h1
  | some l =>
    rw [q] at h1
    cases Option.some.inj h1
    exact ⟨l, rfl, h2⟩
theorem TdAll.lnLen {K : PySem.W.Frag} {H : Hp} {xs : List V} {lns : List Ln} (h : TdAll K H xs (lns.map Ln.data)) : xs.length = lns.length := by
  rw [h.len, List.length_map]
theorem Td.ln {K : PySem.W.Frag} {H : Hp} {x : V} {l : Ln} (h : Td K H x l.data) : ∃ a p, x = .ref a ∧ SqT K H a [.str l.nm, .str l.fm.word, .ref p] ∧ Td K H (.ref p) (.tuple l.fm.partsL) := by
  obtain ⟨a, xs, rfl, h1, hA⟩ := h.tupI
  obtain ⟨x, r, rfl, e1, hA⟩ := hA.consI
  obtain ⟨y, r, rfl, e2, hA⟩ := hA.consI
  obtain ⟨z, r, rfl, e3, hA⟩ := hA.consI
  cases hA.nilI
  cases e1.strI
  cases e2.strI
  obtain ⟨p, ys, rfl, _, _⟩ := e3.tupI
  exact ⟨a, p, rfl, h1, e3⟩
section
variable {P : Program} {w : World} {K : PySem.W.Frag} {mg : Str → Option Value} {base : Heap}
def spGates (K : PySem.W.Frag) : Sp := fun vs H Q _ => ∃ (lp : Addr) (xs : List V) (lns : List Ln), vs = [.ref lp] ∧ SqL K H lp xs ∧ TdAll K H xs (lns.map Ln.data) ∧ LnsOk [] lns ∧ lns.length ≤ 1000 ∧
  ∀ (kd : Addr) (kvs : List (Key × V)) (H' : Hp), Same H H' → H kd = none → H' kd = some (.dK kvs) → KnD K H' kvs (knOf [] lns) → Q (.ref kd) H'
theorem ok_l_script_gates (T : Txt K mg) : FnOk P w K mg base CX0 4 T.f_l_script_gates T.fd_l_script_gates ["lines"] (spGates K) := by
  refine T.F_l_script_gates.ok sc_l_script_gates (fun vs H Q E h => ?_) (fun cdv A outer s H vs Q E hr h => ?_)
  · obtain ⟨lp, xs, lns, rfl, _⟩ := h
    rfl
  · obtain ⟨lp, xs, lns, rfl, hL, hA, ok, hn, q⟩ := h
    refine ⟨_, (pss_cons (ps_set (i := 1) sc_l_script_gates.nd rfl (Or.inl rfl) pe_dnewK)
  (pss_cons (ps_for PassesOwn.never rfl (pi_list (pv 0)) (pg_tup (by rfl) (pgs_cons (pg_name (i := 2) sc_l_script_gates.nd rfl (Or.inl rfl)) (pgs_cons (pg_name (i := 3) sc_l_script_gates.nd rfl (Or.inl rfl)) (pgs_cons (pg_name (i := 4) sc_l_script_gates.nd rfl (Or.inl rfl)) pgs_nil)))) (pss_one (ps_dput (hu_of hr) (pv 1) (pv 2) (pe_call (ok_l_script_line_gates T) (hr.mono (by decide)) (by rfl) T.g_l_script_line_gates T.F_l_script_line_gates.kp T.b_l_script_line_gates .nil pass0 (pa_cons (pv 1) (pa_cons (pv 3) (pa_cons (pv 4) pa_nil)))) rfl)))
  (pss_one (ps_ret (pv 1))))), ?_⟩
    have len := hA.lnLen
    refine fun kd hkd => ?_
    refine ⟨.ref lp, rfl, lp, rfl, ⟨_, SqL.ext hL (same_new hkd)⟩, ?_⟩
    refine for_list (K := K) (a := lp) (xs := xs) (fun i σ H' => ∃ (u2 u3 u4 : Option V) (kvs : List (Key × V)), σ = [some (.ref lp), some (.ref kd), u2, u3, u4] ∧ Same H H' ∧ H' kd = some (.dK kvs) ∧ KnD K H' kvs (knOf [] (lns.take i)))
      ⟨_, _, _, _, rfl, same_new hkd, upd_same, .nil⟩ (fun i σ H' _ ⟨_, _, _, _, _, s, _, _⟩ => SqL.ext hL s) ?_ ?_
    · rintro i x σ H' hx ⟨u2, u3, u4, kvs, rfl, s, gk, hk⟩
      obtain ⟨l, hl, hd⟩ := hA.lnAt hx
      obtain ⟨a, p, rfl, ha, hp⟩ := hd.ln
      have o := ok.at hl
      have ko := KnOk.of KnOk.nil (ok.take i)
      refine ⟨a, _, rfl, SqT.tk ha (Same.tk s), rfl, _, _, rfl, _, _, rfl, _, _, rfl, rfl, ?_⟩
      refine ⟨_, rfl, _, rfl, _, rfl, kd, p, _, kvs, l.fm, rfl, gk, hk, ko, o.fm.w, hp.mv (Same.tk s), fun v H2 s2 gv => ?_⟩
      refine ⟨_, rfl, _, rfl, kd, _, rfl, .inl ⟨kvs, .inr l.nm, s2 _ _ gk, rfl, ?_, rfl⟩, ?_⟩
      · rw [hk.len, knOf_len, List.length_take]
        exact Nat.lt_of_le_of_lt (show 0 + min i lns.length ≤ 1000 by omega) (by decide)
      have nk : valV kvs (.inr l.nm) = none := hk.no (glk_none.mpr o.new)
      have tk := tk_dK (s2 _ _ gk) (o := .dK (putK kvs (.inr l.nm) v))
      refine ⟨_, _, _, _, rfl, fun b u hu => ?_, upd_same, ?_⟩
      · rw [upd_ne (ne_of_none hu hkd)]
        exact s2 _ _ (s _ _ hu)
      · rw [putK_new _ nk, knOf_take hl]
        rw [putK_new _ nk] at tk
        exact KnD.snoc (gv.mv tk) ((hk.mv (Same.tk s2)).mv tk)
    · rintro σ H' ⟨u2, u3, u4, kvs, rfl, s, gk, hk⟩
      rw [len, List.take_length] at hk
      exact ⟨_, rfl, q kd kvs H' s hkd gk hk⟩
theorem knOf_at {lns : List Ln} {i : Nat} {l : Ln} (h : lns[i]? = some l) : (knOf [] lns)[i]? = some (l.nm, l.fm.gates (knOf [] (lns.take i))) := by
  have e : knOf [] lns = knOf (knOf [] (lns.take (i + 1))) (lns.drop (i + 1)) := by rw [← knOf_app, List.take_append_drop]
  obtain ⟨t, et⟩ := knOf_pre (kn := knOf [] (lns.take (i + 1))) (xs := lns.drop (i + 1))
  have hi := (List.getElem?_eq_some_iff.mp h).1
  have hl : (knOf [] (lns.take i)).length = i := by
    rw [knOf_len, List.length_take]
    simp
    omega
  rw [e, et, knOf_take h, List.append_assoc, List.getElem?_append_right (by omega), hl, Nat.sub_self]
  rfl
def widthL (lns : List Ln) : Nat := ((knOf [] lns).map (·.2.length)).foldl max 0
theorem fold_max : ∀ (xs : List Nat) (m : Nat), m ≤ xs.foldl max m ∧ (∀ x ∈ xs, x ≤ xs.foldl max m) ∧ (xs.foldl max m = m ∨ xs.foldl max m ∈ xs)
  | [], m => ⟨Nat.le_refl _, fun x h => (by cases h), .inl rfl⟩
  | x :: r, m => by
    obtain ⟨h1, h2, h3⟩ := fold_max r (max m x)
    show m ≤ r.foldl max (max m x) ∧ (∀ y ∈ x :: r, y ≤ r.foldl max (max m x)) ∧ (r.foldl max (max m x) = m ∨ r.foldl max (max m x) ∈ x :: r)
    refine ⟨by omega, fun y hy => ?_, ?_⟩
    · rcases List.mem_cons.mp hy with rfl | hy
      · omega
      · exact h2 y hy
    · rcases h3 with h3 | h3
      · by_cases e : m ≤ x
        · right
          rw [h3, Nat.max_eq_right e]
          exact List.mem_cons_self
        · left
          rw [h3]
          omega
      · exact .inr (List.mem_cons_of_mem _ h3)
theorem max_is {ns : List Int} {xs : List Nat} (e : ns = xs.map Int.ofNat) {m : Int} (hm : m ∈ ns) (hh : ∀ y, y ∈ ns → y ≤ m) : m = (xs.foldl max 0 : Nat) := by
  subst e
  obtain ⟨h1, h2, h3⟩ := fold_max xs 0
  obtain ⟨x, hx, rfl⟩ := List.mem_map.mp hm
  have a := h2 x hx
  rcases h3 with h3 | h3
  · have : x = 0 := by omega
    rw [h3, this]
    rfl
  · have b := hh _ (List.mem_map_of_mem h3)
    have : xs.foldl max 0 ≤ x := by
      have : Int.ofNat (xs.foldl max 0) ≤ Int.ofNat x := b
      exact Int.ofNat_le.mp this
    have : x = xs.foldl max 0 := by omega
    rw [← this]
    rfl
def spWidth (K : PySem.W.Frag) : Sp := fun vs H Q _ => ∃ (lp : Addr) (xs : List V) (lns : List Ln), vs = [.ref lp] ∧ SqL K H lp xs ∧ TdAll K H xs (lns.map Ln.data) ∧ LnsOk [] lns ∧ lns ≠ [] ∧ lns.length ≤ 1000 ∧
  ∀ (H' : Hp), Same H H' → Q (.int (widthL lns : Nat)) H'
end
end OG
set_option Elab.async false
set_option linter.all false
set_option maxRecDepth 100000
set_option maxHeartbeats 8000000
namespace OG
open PySem PySem.Spec PyProof.Rows L2
section
variable {P : Program} {w : World} {K : PySem.W.Frag} {mg : Str → Option Value} {base : Heap}
def spFacT (K : PySem.W.Frag) : Sp := fun vs H Q _ => ∃ (a : Addr) (f : Fac), vs = [.ref a] ∧ SqT K H a [.int f.1, .int f.2] ∧ FacOk f ∧ Q (.str (facT f)) H
theorem ok_l_script_factor_text (T : Txt K mg) : FnOk P w K mg base CX0 3 T.f_l_script_factor_text T.fd_l_script_factor_text ["factor"] (spFacT K) := by
  refine T.F_l_script_factor_text.ok sc_l_script_factor_text (fun vs H Q E h => ?_) (fun cdv A outer s H vs Q E hr h => ?_)
  · obtain ⟨a, f, rfl, _⟩ := h
    rfl
  · obtain ⟨a, f, rfl, hT, ok, q⟩ := h
    refine ⟨_, (pss_cons (ps_asg (pv 0) (pg_tup (by rfl) (pgs_cons (pg_name (i := 1) sc_l_script_factor_text.nd rfl (Or.inl rfl)) (pgs_cons (pg_name (i := 2) sc_l_script_factor_text.nd rfl (Or.inl rfl)) pgs_nil))))
  (pss_one (ps_ret (pe_ifExp (pt_cmpR op_eq (pv 2) pe_int (nomark _)) (pe_callTy call_str_int (by rfl) T.n_str (by decide +kernel) (pa_cons (pe_callTy call_int1 (by rfl) T.n_int (by decide +kernel) (pa_cons (pv 1) pa_nil)) pa_nil)) (pe_op op_add_str (pe_op op_add_str (pe_callTy call_str_int (by rfl) T.n_str (by decide +kernel) (pa_cons (pe_callTy call_int1 (by rfl) T.n_int (by decide +kernel) (pa_cons (pv 1) pa_nil)) pa_nil)) pe_str) (pe_callTy call_str_int (by rfl) T.n_str (by decide +kernel) (pa_cons (pe_callTy call_int1 (by rfl) T.n_int (by decide +kernel) (pa_cons (pv 2) pa_nil)) pa_nil))))))), ?_⟩
    have h1 := ok.sml.1
    have h2 := ok.sml.2
    have h3 := ok.low
    have szl : ∀ {n : Nat}, n ≤ 1000 → n ≤ sizeLine := fun h => Nat.le_trans h (by decide)
    have l1 := istr_sml h1
    have l2 : (istr f.2).length ≤ 14 := istr_sml (by omega)
    have g1 : f.1.natAbs.log2 < 1920 := small_log (by omega) (by omega)
    have g2 : f.2.natAbs.log2 < 1920 := small_log (by omega) (by omega)
    refine ⟨_, rfl, a, _, rfl, hT, rfl, _, _, rfl, _, _, rfl, rfl, ?_⟩
    refine ⟨_, rfl, rfl, _, rfl, ?_⟩
    unfold facT at q
    by_cases e : f.2 = 1
    · rw [decide_eq_true (congrArg V.int e)]
      rw [if_pos e] at q
      refine iteT ?_
      exact ⟨_, rfl, .inl ⟨_, rfl, _, rfl, g1, q⟩⟩
    · rw [decide_eq_false fun z => e (V.int.inj z)]
      rw [if_neg e] at q
      refine iteF ?_
      have l3 : (istr f.1 ++ "/" : Str).length ≤ 15 := by
        rw [app_len]
        exact Nat.add_le_add_right l1 1
      exact ⟨_, rfl, .inl ⟨_, rfl, _, rfl, g1, _, _, rfl, rfl, szl (Nat.le_trans (Nat.add_le_add_right l1 1) (by decide)), _, rfl, .inl ⟨_, rfl, _, rfl, g2, _, _, rfl, rfl, szl (Nat.le_trans (Nat.add_le_add l3 l2) (by decide)), q⟩⟩⟩
theorem Td.facI {K : PySem.W.Frag} {H : Hp} {v : V} {f : Fac} {z : Str} (h : Td K H v (.tuple [facD f, .str z])) : ∃ a b, v = .ref a ∧ SqT K H a [.ref b, .str z] ∧ SqT K H b [.int f.1, .int f.2] := by
  obtain ⟨a, xs, rfl, h1, hA⟩ := h.tupI
  obtain ⟨x, r, rfl, e1, hA⟩ := hA.consI
  obtain ⟨y, r, rfl, e2, hA⟩ := hA.consI
  cases hA.nilI
  cases e2.strI
  obtain ⟨b, ys, rfl, h2, hA⟩ := e1.tupI
  obtain ⟨x, r, rfl, e1, hA⟩ := hA.consI
  obtain ⟨y, r, rfl, e2, hA⟩ := hA.consI
  cases hA.nilI
  cases e1.intI
  cases e2.intI
  exact ⟨a, b, rfl, h1, h2⟩
theorem FrmFit.flat {f : Frm} (h : FrmFit f) (n : ∀ fs, f ≠ .add fs) : ∀ d ∈ f.partsL, (∃ z, d = .str z) ∨ ∃ i : Int, d = .int i ∧ 1 ≤ i ∧ i ≤ 4 := by
  intro d hd
  cases f with
  | one gs =>
    obtain ⟨g, hg, rfl⟩ := List.mem_map.mp hd
    exact .inr ⟨g, rfl, GsOk.rng h g hg⟩
  | road k g h' =>
    obtain ⟨h1, h2, h3⟩ := h
    have hd : d ∈ [PyData.str k, .int g, .int h'] := hd
    simp only [List.mem_cons, List.mem_nil_iff, or_false] at hd
    rcases hd with rfl | rfl | rfl
    · exact .inl ⟨_, rfl⟩
    · exact .inr ⟨_, rfl, h2⟩
    · exact .inr ⟨_, rfl, h3⟩
  | prod a b =>
    have hd : d ∈ [PyData.str a, .str b] := hd
    simp only [List.mem_cons, List.mem_nil_iff, or_false] at hd
    rcases hd with rfl | rfl <;> exact .inl ⟨_, rfl⟩
  | close g a =>
    have hd : d ∈ [PyData.int g, .str a] := hd
    simp only [List.mem_cons, List.mem_nil_iff, or_false] at hd
    rcases hd with rfl | rfl
    · exact .inr ⟨_, rfl, h.1⟩
    · exact .inl ⟨_, rfl⟩
  | turn g h' a =>
    obtain ⟨h1, h2, h3⟩ := h
    have hd : d ∈ [PyData.int g, .int h', .str a] := hd
    simp only [List.mem_cons, List.mem_nil_iff, or_false] at hd
    rcases hd with rfl | rfl | rfl
    · exact .inr ⟨_, rfl, h1⟩
    · exact .inr ⟨_, rfl, h2⟩
    · exact .inl ⟨_, rfl⟩
  | add fs => exact absurd rfl (n fs)
def spLineT (K : PySem.W.Frag) : Sp := fun vs H Q _ => ∃ (a : Addr) (l : Ln), vs = [.ref a] ∧ Td K H (.ref a) l.data ∧ LnFit l ∧ ∀ H', Same H H' → Q (.str (lineT l)) H'
theorem ok_l_script_line_text (T : Txt K mg) : FnOk P w K mg base CX0 4 T.f_l_script_line_text T.fd_l_script_line_text ["line"] (spLineT K) := by
  refine T.F_l_script_line_text.ok sc_l_script_line_text (fun vs H Q E h => ?_) (fun cdv A outer s H vs Q E hr h => ?_)
  · obtain ⟨a, l, rfl, _⟩ := h
    rfl
  · obtain ⟨a, l, rfl, hd, fit, q⟩ := h
    refine ⟨_, (pss_cons (ps_asg (pv 0) (pg_tup (by rfl) (pgs_cons (pg_name (i := 1) sc_l_script_line_text.nd rfl (Or.inl rfl)) (pgs_cons (pg_name (i := 2) sc_l_script_line_text.nd rfl (Or.inl rfl)) (pgs_cons (pg_name (i := 3) sc_l_script_line_text.nd rfl (Or.inl rfl)) pgs_nil)))))
  (pss_cons (ps_if (pt_cmpR op_eq (pv 2) pe_str (nomark _)) (pss_one (ps_ret (pe_join pe_str (pe_lst (pa_cons (pv 1) (pa_cons pe_str (pa_cons (pe_ix ix_tup (pv 3) pe_int (fun _ _ => rfl)) (pa_cons pe_str (pa_cons (pe_ix ix_tup (pv 3) pe_int (fun _ _ => rfl)) pa_nil))))))))) pss_nil)
  (pss_cons (ps_set (i := 4) sc_l_script_line_text.nd rfl (Or.inl rfl) (pe_lst (pa_cons (pv 1) (pa_cons pe_str (pa_cons (pv 2) pa_nil)))))
  (pss_cons (ps_for PassesOwn.never rfl (pi_tup (pv 3)) (pg_name (i := 5) sc_l_script_line_text.nd rfl (Or.inl rfl)) (pss_one (ps_if (pt_cmpR op_eq (pv 2) pe_str (nomark _)) (pss_one (ps_expr (pe_bm PySem.F.plainAttrs_list PySem.F.slot_list_extend PySem.F.type_list_extend mt_extend (pv 4) (pa_cons (pe_lst (pa_cons (pe_call (ok_l_script_factor_text T) (hr.mono (by decide)) (by rfl) T.g_l_script_factor_text T.F_l_script_factor_text.kp T.b_l_script_factor_text .nil pass0 (pa_cons (pe_ix ix_tup (pv 5) pe_int (fun _ _ => rfl)) pa_nil)) (pa_cons (pe_ix ix_tup (pv 5) pe_int (fun _ _ => rfl)) pa_nil))) pa_nil)))) (pss_one (ps_expr (pe_bm PySem.F.plainAttrs_list PySem.F.slot_list_append PySem.F.type_list_append mt_append (pv 4) (pa_cons (pe_ifExp (pt_val (pe_callB call_isi (by rfl) T.n_isinstance (by decide +kernel) (pa_cons (pv 5) (pa_cons (pe_bltn (v := .ty "str") (by rfl) T.n_str (by decide +kernel) rfl) pa_nil)))) (pv 5) (pe_callTy call_str_int (by rfl) T.n_str (by decide +kernel) (pa_cons (pe_callTy call_int1 (by rfl) T.n_int (by decide +kernel) (pa_cons (pv 5) pa_nil)) pa_nil))) pa_nil)))))))
  (pss_one (ps_ret (pe_join pe_str (pv 4)))))))), ?_⟩
    have wide : ∀ {n : Nat}, n ≤ 1000 → n ≤ sizeLine := fun h => Nat.le_trans h (by decide)
    obtain ⟨_, p, e, ha, hp⟩ := hd.ln
    cases e
    obtain ⟨_, xs, e, hP, hA⟩ := hp.tupI
    cases e
    have hw := fit.words
    obtain ⟨nm, fm⟩ := l
    refine ⟨_, rfl, a, _, rfl, ha, rfl, _, _, rfl, _, _, rfl, _, _, rfl, rfl, ?_⟩
    by_cases isP : ∃ x y, fm = .prod x y
    · obtain ⟨x, y, rfl⟩ := isP
      have ex : xs = [.str x, .str y] := by
        obtain ⟨_, r, rfl, h1, hA⟩ := hA.consI
        obtain ⟨_, r, rfl, h2, hA⟩ := hA.consI
        rw [h1.strI, h2.strI, hA.nilI]
      subst ex
      refine ⟨_, rfl, rfl, _, rfl, ?_⟩
      refine (show (if decide (V.str _ = V.str _) = true then _ else _) from ifS_eq ?_)
      refine ⟨⟨_, rfl⟩, _, rfl, _, rfl, p, _, 0, .str x, rfl, rfl, hP, rfl, _, rfl, p, _, 1, .str y, rfl, rfl, hP, rfl, wide (show 5 ≤ 1000 by decide), fun L hL => ?_⟩
      exact ⟨_, L, [nm, "=", x, "*", y], rfl, rfl, .inl (SqL.of upd_same), join_ok (c := 8) (n := 11) hw.2 hw.1 rfl (by decide), q _ (same_new hL)⟩
    · have ne : fm.word ≠ "*" := by
        cases fm with
        | prod x y => exact absurd ⟨x, y, rfl⟩ isP
        | _ => dsimp only [Frm.word]; decide
      have eT : lineT ⟨nm, fm⟩ = Txt.join " " ([nm, "=", fm.word] ++ (fm.partsL.map dW).flatten) := by
        cases fm with
        | prod x y => exact absurd ⟨x, y, rfl⟩ isP
        | _ => rfl
      refine ⟨_, rfl, rfl, _, rfl, ?_⟩
      refine (show (if decide (V.str _ = V.str _) = true then _ else _) from ifS_ne (decide_eq_false ne) ?_)
      refine ⟨_, rfl, _, rfl, wide (show 3 ≤ 1000 by decide), fun W hW => ?_⟩
      have s0 := same_new (o := .lst (([nm, "=", fm.word] : List Str).map V.str)) hW
      refine ⟨_, rfl, p, rfl, ⟨_, SqT.tk hP (Same.tk (same_new hW))⟩, ?_⟩
      have part := fit.fm.parts
      have lw : ∀ i, ((([nm, "=", fm.word] ++ ((fm.partsL.take i).map dW).flatten : List Str)).map V.str).length ≤ 11 := fun i => by
        rw [List.length_map, List.length_append]
        have := (flat2 (ds := fm.partsL.take i) (n := 4) (by rw [List.length_take]; exact Nat.le_trans (Nat.min_le_right _ _) part.1) fun d hd => part.2 d (List.mem_of_mem_take hd)).1
        show 3 + _ ≤ 11
        omega
      refine for_tup (K := K) (a := p) (xs := xs) (fun i σ H' => ∃ u5 : Option V, σ = [some (.ref a), some (.str nm), some (.str fm.word), some (.ref p), some (.ref W), u5] ∧ Same H H' ∧ H' W = some (.lst (([nm, "=", fm.word] ++ ((fm.partsL.take i).map dW).flatten : List Str).map V.str)))
        ⟨_, rfl, same_new hW, upd_same⟩ (fun i σ H' _ ⟨_, _, s, _⟩ => SqT.tk hP (Same.tk s)) ?_ ?_
      · rintro i x σ H' hx ⟨u5, rfl, s, gW⟩
        obtain ⟨d, hd, hxd⟩ := hA.atV hx
        have tm := take_more hd
        have lw1 := lw i
        have grow : ∀ {H2 : Hp}, Same H' H2 → ∀ {ys : List V}, ys = (dW d).map V.str → ∀ {o}, o = HO.lst ((([nm, "=", fm.word] ++ ((fm.partsL.take i).map dW).flatten : List Str).map V.str) ++ ys) → Same H (upd H2 W o) ∧ (upd H2 W o) W = some (.lst (([nm, "=", fm.word] ++ ((fm.partsL.take (i + 1)).map dW).flatten : List Str).map V.str)) := by
          intro H2 s2 ys ey o eo
          refine ⟨fun b u hu => ?_, ?_⟩
          · rw [upd_ne (ne_of_none hu hW)]
            exact s2 _ _ (s _ _ hu)
          · rw [upd_same, eo, ey, tm, List.map_append (f := dW), List.flatten_append, ← List.append_assoc, List.map_append (f := V.str) (l₁ := _ ++ _)]
            simp
        by_cases isA : ∃ fs, fm = .add fs
        · obtain ⟨fs, rfl⟩ := isA
          have hdf : d ∈ fs.map fun f => PyData.tuple [facD f.1, .str f.2] := List.mem_of_getElem? hd
          obtain ⟨f, hf, rfl⟩ := List.mem_map.mp hdf
          obtain ⟨fa, fb, rfl, h1, h2⟩ := hxd.facI
          have fo := (fit.fm.2 f hf).1
          refine ⟨_, rfl, rfl, _, rfl, ?_⟩
          refine (show (if decide (V.str _ = V.str _) = true then _ else _) from ifS_eq ?_)
          refine ⟨_, rfl, .inl ⟨rfl, _, SqL.of gW⟩, ?_⟩
          have k1 := SqT.tk h1 (Same.tk s)
          have k2 := SqT.tk h2 (Same.tk s)
          refine ⟨_, rfl, fa, _, 0, .ref fb, rfl, rfl, k1, rfl, fb, f.1, rfl, k2, fo, _, rfl, fa, _, 1, .str f.2, rfl, rfl, k1, rfl, wide (show 2 ≤ 1000 by decide), fun M hM => ?_⟩
          have sM := same_new (o := .lst (([facT f.1, f.2] : List Str).map V.str)) hM
          have g2 := grow sM (ys := ([facT f.1, f.2] : List Str).map V.str) rfl rfl
          refine ⟨W, M, _, _, rfl, rfl, sM _ _ gW, upd_same, ?_, _, rfl, g2⟩
          exact Nat.le_trans (Nat.add_le_add_right lw1 2) (by decide)
        · have neA : fm.word ≠ "add" := by
            cases fm with
            | add fs => exact absurd ⟨fs, rfl⟩ isA
            | _ => dsimp only [Frm.word]; decide
          refine ⟨_, rfl, rfl, _, rfl, ?_⟩
          refine (show (if decide (V.str _ = V.str _) = true then _ else _) from ifS_ne (decide_eq_false neA) ?_)
          refine ⟨_, rfl, .inl ⟨rfl, _, SqL.of gW⟩, ?_⟩
          have flat := fit.fm.flat (fun fs e => isA ⟨fs, e⟩) d (List.mem_of_getElem? hd)
          rcases flat with ⟨z, rfl⟩ | ⟨g, rfl, g1, g4⟩
          · cases hxd.strI
            refine ⟨_, rfl, _, _, _, _, true, rfl, .ty _, .base (.str _), kit_ty (by decide +kernel), ?_⟩
            refine ⟨_, rfl, ?_⟩
            refine iteT ?_
            have g2 := grow (Same.refl H') (ys := [.str z]) rfl rfl
            refine ⟨_, rfl, W, _, _, rfl, rfl, gW, ?_, _, rfl, g2⟩
            exact Nat.lt_of_le_of_lt lw1 (by decide)
          · cases hxd.intI
            refine ⟨_, rfl, _, _, _, _, false, rfl, .ty _, .base (.int _), kit_ty (by decide +kernel), ?_⟩
            refine ⟨_, rfl, ?_⟩
            refine iteF ?_
            have g2 := grow (Same.refl H') (ys := [.str (istr g)]) rfl rfl
            refine ⟨_, rfl, .inl ⟨_, rfl, _, rfl, small_log (by omega) (by omega), W, _, _, rfl, rfl, gW, ?_, _, rfl, g2⟩⟩
            exact Nat.lt_of_le_of_lt lw1 (by decide)
      · rintro σ H' ⟨u5, rfl, s, gW⟩
        rw [hA.len, List.take_length] at gW
        rw [eT] at q
        have hw2 : ([nm, "=", fm.word] ++ (fm.partsL.map dW).flatten).length ≤ 11 ∧ ∀ z ∈ [nm, "=", fm.word] ++ (fm.partsL.map dW).flatten, z.length ≤ 8 := by
          cases fm with
          | prod x y => exact absurd ⟨x, y, rfl⟩ isP
          | _ => exact hw
        exact ⟨⟨_, rfl⟩, _, rfl, _, W, _, rfl, rfl, .inl (SqL.of gW), join_ok (c := 8) (n := 11) hw2.2 hw2.1 rfl (by decide), q _ s⟩
end
end OG
set_option Elab.async false
set_option linter.all false
set_option maxRecDepth 100000
set_option maxHeartbeats 8000000
namespace OG
open PySem PySem.Spec PyProof.Rows L2
theorem lineT_len {l : Ln} (h : LnFit l) : (lineT l).length ≤ 99 := join_le (c := 8) (n := 11) h.words.2 h.words.1 rfl
theorem textT_ok {lns : List Ln} (h : ∀ l ∈ lns, LnFit l) (hn : lns.length ≤ 1000) : ((("script" : Str) :: lns.map lineT).map (·.length)).sum + (("script" : Str) :: lns.map lineT).length * ("\n" : Str).length ≤ 16777216 := by
  refine join_ok (c := 99) (n := 1001) (fun y hy => ?_) ?_ rfl (by decide)
  · rcases List.mem_cons.mp hy with rfl | hy
    · decide
    · obtain ⟨l, hl, rfl⟩ := List.mem_map.mp hy
      exact lineT_len (h l hl)
  · rw [List.length_cons, List.length_map]
    omega
section
variable {P : Program} {w : World} {K : PySem.W.Frag} {mg : Str → Option Value} {base : Heap}
def spTextT (K : PySem.W.Frag) : Sp := fun vs H Q _ => ∃ (lp : Addr) (xs : List V) (lns : List Ln), vs = [.ref lp] ∧ SqL K H lp xs ∧ TdAll K H xs (lns.map Ln.data) ∧ (∀ l ∈ lns, LnFit l) ∧ lns.length ≤ 1000 ∧
  ∀ (H' : Hp), Same H H' → Q (.str (textT lns)) H'
theorem ok_l_script_text (T : Txt K mg) : FnOk P w K mg base CX0 5 T.f_l_script_text T.fd_l_script_text ["lines"] (spTextT K) := by
  refine T.F_l_script_text.ok sc_l_script_text (fun vs H Q E h => ?_) (fun cdv A outer s H vs Q E hr h => ?_)
  · obtain ⟨lp, xs, lns, rfl, _⟩ := h
    rfl
  · obtain ⟨lp, xs, lns, rfl, hL, hA, fit, hn, q⟩ := h
    refine ⟨_, (pss_one (ps_ret (pe_join pe_str (pe_op op_cat (pe_lst (pa_cons pe_str pa_nil)) (pe_lc (own := [("line", 1)]) (g := gName 1) (by rfl) sc_l_script_text.nd (pi_list (pv 0)) (blkOk_by (own := [("line", 1)]) (by rfl)) (fun _ _ _ _ _ => (pg_name (i := 1) sc_l_script_text.nd rfl (Or.inl rfl))) (fun _ _ _ _ _ => pts_nil) (fun _ _ _ _ _ => (pe_call (ok_l_script_line_text T) (hr.mono (by decide)) (by rfl) T.g_l_script_line_text T.F_l_script_line_text.kp T.b_l_script_line_text .nil pass0 (pa_cons (pv 1) pa_nil)))))))), ?_⟩
    have wide : ∀ {n : Nat}, n ≤ 2000 → n ≤ sizeLine := fun h => Nat.le_trans h (by decide)
    have len := hA.lnLen
    refine ⟨⟨_, rfl⟩, wide (show 1 ≤ 2000 by decide), fun L hLn => ?_⟩
    have s1 := same_new (o := .lst (([("script" : Str)] : List Str).map V.str)) hLn
    refine ⟨.ref lp, rfl, lp, rfl, ⟨_, SqL.ext hL (same_new hLn)⟩, fun D hD => ?_⟩
    have e1 : upd H L (.lst [.str "script"]) = upd H L (.lst (([("script" : Str)] : List Str).map V.str)) := rfl
    have gL : (upd H L (.lst (([("script" : Str)] : List Str).map V.str))) L = some (.lst (([("script" : Str)] : List Str).map V.str)) := upd_same
    rw [e1] at hD ⊢
    generalize upd H L (.lst (([("script" : Str)] : List Str).map V.str)) = H1 at *
    refine lc_mapL' (K := K) (a := lp) (xs := xs) (lns.map lineT) (by rw [List.length_map]; exact len.symm) (by omega) hD (SqL.ext hL s1) (fun _ => rfl) (fun x H' Q k => k) (fun i x y H' Q hx hy s k => ?_) (fun H' s g => ?_)
    · obtain ⟨l, hl, hd⟩ := hA.lnAt hx
      rw [List.getElem?_map, hl] at hy
      cases Option.some.inj hy
      obtain ⟨a, p, rfl, ha, hp⟩ := hd.ln
      exact ⟨_, rfl, a, l, rfl, hd.mv (Same.tk (s1.trans s)), fit l (List.mem_of_getElem? hl), fun H2 s2 => k _ s2⟩
    · refine ⟨L, D, _, _, rfl, rfl, s _ _ gL, g, wide ?_, fun J hJ => ?_⟩
      · rw [List.length_map, List.length_map, List.length_map]
        show 1 + lns.length ≤ 2000
        omega
      refine ⟨_, J, "script" :: lns.map lineT, rfl, rfl, .inl (SqL.of ?_), textT_ok fit hn, q _ ((s1.trans s).trans (same_new hJ))⟩
      rw [upd_same]
      rfl
end
end OG
set_option Elab.async false
set_option linter.all false
set_option maxRecDepth 100000
set_option maxHeartbeats 8000000
namespace OG
open PySem PySem.Spec PyProof.Rows L2
def szF (kvs : List (Key × V)) (a : Str) : Int := match valV kvs (.inr a) with
  | some (.int n) => n
  | _ => 0
/-- sizes of all that is known -/
def SzOk (kn : Kn) (kvs : List (Key × V)) : Prop := ∀ a gs, glk kn a = some gs → valV kvs (.inr a) = some (.int (szF kvs a))
theorem SzOk.nil (kvs : List (Key × V)) : SzOk [] kvs := fun a gs h => by cases h
theorem SzOk.snoc {kn : Kn} {kvs : List (Key × V)} (h : SzOk kn kvs) {a : Str} {gs : List Int} {n : Int} : SzOk (kn ++ [(a, gs)]) (putK kvs (.inr a) (.int n)) := by
  intro b bs e
  unfold szF
  rw [valV_put]
  by_cases n : b = a
  · rw [if_pos (by rw [n])]
  · rw [if_neg fun z => n (Sum.inr.inj z)]
    rw [glk_app] at e
    cases q : glk kn b with
    | none =>
      rw [q] at e
      have e : (if b = a then some gs else none) = some bs := e
      rw [if_neg n] at e
      cases e
    | some g =>
      have := h b g q
      rw [this]
section
variable {P : Program} {w : World} {K : PySem.W.Frag} {mg : Str → Option Value} {base : Heap}
def spSize (K : PySem.W.Frag) : Sp := fun vs H Q _ => ∃ (sd pt : Addr) (kn : Kn) (kvs : List (Key × V)) (f : Frm), vs = [.ref sd, .str f.word, .ref pt] ∧ H sd = some (.dK kvs) ∧ SzOk kn kvs ∧ FrmOk kn f ∧
  Td K H (.ref pt) (.tuple f.partsL) ∧ ∀ (n : Int) (H' : Hp), Same H H' → Q (.int n) H'
theorem ok_l_script_size (T : Txt K mg) : FnOk P w K mg base CX0 3 T.f_l_script_size T.fd_l_script_size ["sizes", "form", "parts"] (spSize K) := by
  refine T.F_l_script_size.ok sc_l_script_size (fun vs H Q E h => ?_) (fun cdv A outer s H vs Q E hr h => ?_)
  · obtain ⟨sd, pt, kn, kvs, f, rfl, _⟩ := h
    rfl
  · obtain ⟨sd, pt, kn, kvs, f, rfl, gS, hS, hf, hp, q⟩ := h
    refine ⟨_, (pss_cons (ps_if (pt_cmpR op_in_seq (pv 1) (pe_tup (pa_cons pe_str (pa_cons pe_str pa_nil))) rfl) (pss_one (ps_ret (pe_op op_add pe_int (pe_callB call_len_seq (by rfl) T.n_len PySem.boot_len (pa_cons (pv 2) pa_nil))))) pss_nil)
  (pss_cons (ps_if (pt_cmpR op_eq (pv 1) pe_str (nomark _)) (pss_one (ps_ret (pe_op op_add (pe_dget (hu_of hr) (pv 0) (pe_ix ix_tup (pv 2) pe_int (fun _ _ => rfl)) (fun _ _ => rfl)) (pe_dget (hu_of hr) (pv 0) (pe_ix ix_tup (pv 2) pe_int (fun _ _ => rfl)) (fun _ _ => rfl))))) pss_nil)
  (pss_cons (ps_if (pt_cmpR op_eq (pv 1) pe_str (nomark _)) (pss_one (ps_ret (pe_op op_add pe_int (pe_callB (cr_max rfl) (by rfl) T.n_max (by decide +kernel) (pa_cons (pe_lc (own := [("factor", 3), ("one", 4)]) (by rfl) sc_l_script_size.nd (pi_tup (pv 2)) (blkOk_by (own := [("factor", 3), ("one", 4)]) (by rfl)) (fun _ _ _ _ _ => (pg_tupK K (n := 2) (by rfl) (pgs_cons (pg_name (i := 3) sc_l_script_size.nd rfl (Or.inl rfl)) (pgs_cons (pg_name (i := 4) sc_l_script_size.nd rfl (Or.inl rfl)) pgs_nil)))) (fun _ _ _ _ _ => pts_nil) (fun _ _ _ _ _ => (pe_dget (hu_of hr) (pv 0) (pv 4) (fun _ _ => rfl)))) pa_nil))))) pss_nil)
  (pss_one (ps_ret (pe_dget (hu_of hr) (pv 0) (pe_ix ix_tup (pv 2) (pe_un un_neg pe_int) (fun _ _ => rfl)) (fun _ _ => rfl))))))), ?_⟩
    have wide : ∀ {n : Nat}, n ≤ 1000 → n ≤ sizeLine := fun h => Nat.le_trans h (by decide)
    obtain ⟨pa, xs, ea, hT, hA⟩ := hp.tupI
    cases ea
    cases f with
    | one gs =>
      refine ⟨_, rfl, (by show 2 ≤ 16777216; decide), fun t0 ht0 => ⟨t0, _, rfl, .inr (SqT.of upd_same), rfl, rfl, ?_⟩⟩
      refine ⟨_, rfl, ?_⟩
      refine (show (if inV (V.str _) ((["one", "road"] : List Str).map V.str) = true then _ else _) from ?_)
      rw [inV_str, decide_eq_true (by dsimp only [Frm.word]; decide)]
      refine iteT ?_
      exact ⟨_, rfl, pt, _, rfl, .inr (SqT.tk hT (Same.tk (same_new ht0))), _, _, rfl, rfl, q _ _ (same_new ht0)⟩
    | road k g h =>
      refine ⟨_, rfl, (by show 2 ≤ 16777216; decide), fun t0 ht0 => ⟨t0, _, rfl, .inr (SqT.of upd_same), rfl, rfl, ?_⟩⟩
      refine ⟨_, rfl, ?_⟩
      refine (show (if inV (V.str _) ((["one", "road"] : List Str).map V.str) = true then _ else _) from ?_)
      rw [inV_str, decide_eq_true (by dsimp only [Frm.word]; decide)]
      refine iteT ?_
      exact ⟨_, rfl, pt, _, rfl, .inr (SqT.tk hT (Same.tk (same_new ht0))), _, _, rfl, rfl, q _ _ (same_new ht0)⟩
    | prod a b =>
      have ex : xs = [.str a, .str b] := by
        obtain ⟨x, r, rfl, h1, hA⟩ := hA.consI
        obtain ⟨y, r, rfl, h2, hA⟩ := hA.consI
        rw [h1.strI, h2.strI, hA.nilI]
      subst ex
      obtain ⟨⟨ga, ea⟩, gb, eb⟩ := hf
      refine ⟨_, rfl, (by show 2 ≤ 16777216; decide), fun t0 ht0 => ⟨t0, _, rfl, .inr (SqT.of upd_same), rfl, rfl, ?_⟩⟩
      refine ⟨_, rfl, ?_⟩
      refine (show (if inV (V.str _) ((["one", "road"] : List Str).map V.str) = true then _ else _) from ?_)
      rw [inV_str, decide_eq_false (by dsimp only [Frm.word]; decide)]
      refine iteF ?_
      refine ⟨_, rfl, rfl, _, rfl, ?_⟩
      refine (show (if decide (V.str _ = V.str _) = true then _ else _) from ifS_eq ?_)
      have s0 := same_new (o := .tup [.str "one", .str "road"]) ht0
      have hT := SqT.tk hT (Same.tk s0)
      exact ⟨_, rfl, _, rfl, pt, _, 0, .str a, rfl, rfl, hT, rfl, sd, _, rfl, .inl ⟨kvs, .inr a, .inl (s0 _ _ gS), rfl, (hS a _ ea).symm⟩, _, rfl, _, rfl, pt, _, 1, .str b, rfl, rfl, hT, rfl, sd, _, rfl, .inl ⟨kvs, .inr b, .inl (s0 _ _ gS), rfl, (hS b _ eb).symm⟩, _, _, rfl, rfl, q _ _ s0⟩
    | close g a =>
      have ex : xs = [.int g, .str a] := by
        obtain ⟨x, r, rfl, h1, hA⟩ := hA.consI
        obtain ⟨y, r, rfl, h2, hA⟩ := hA.consI
        rw [h1.intI, h2.strI, hA.nilI]
      subst ex
      obtain ⟨ga, ea, _⟩ := hf
      refine ⟨_, rfl, (by show 2 ≤ 16777216; decide), fun t0 ht0 => ⟨t0, _, rfl, .inr (SqT.of upd_same), rfl, rfl, ?_⟩⟩
      refine ⟨_, rfl, ?_⟩
      refine (show (if inV (V.str _) ((["one", "road"] : List Str).map V.str) = true then _ else _) from ?_)
      rw [inV_str, decide_eq_false (by dsimp only [Frm.word]; decide)]
      refine iteF ?_
      refine ⟨_, rfl, rfl, _, rfl, ?_⟩
      refine (show (if decide (V.str _ = V.str _) = true then _ else _) from ifS_ne (by refine decide_eq_false ?_; dsimp only [Frm.word]; decide) ?_)
      refine ⟨_, rfl, rfl, _, rfl, ?_⟩
      refine (show (if decide (V.str _ = V.str _) = true then _ else _) from ifS_ne (by refine decide_eq_false ?_; dsimp only [Frm.word]; decide) ?_)
      have s0 := same_new (o := .tup [.str "one", .str "road"]) ht0
      have hT := SqT.tk hT (Same.tk s0)
      exact ⟨_, rfl, _, rfl, _, rfl, pt, _, -1, .str a, rfl, rfl, hT, rfl, sd, _, rfl, .inl ⟨kvs, .inr a, .inl (s0 _ _ gS), rfl, (hS a _ ea).symm⟩, q _ _ s0⟩
    | turn g h a =>
      have ex : xs = [.int g, .int h, .str a] := by
        obtain ⟨x, r, rfl, h1, hA⟩ := hA.consI
        obtain ⟨y, r, rfl, h2, hA⟩ := hA.consI
        obtain ⟨z, r, rfl, h3, hA⟩ := hA.consI
        rw [h1.intI, h2.intI, h3.strI, hA.nilI]
      subst ex
      obtain ⟨hgh, hg, hh, ga, ea, _⟩ := hf
      refine ⟨_, rfl, (by show 2 ≤ 16777216; decide), fun t0 ht0 => ⟨t0, _, rfl, .inr (SqT.of upd_same), rfl, rfl, ?_⟩⟩
      refine ⟨_, rfl, ?_⟩
      refine (show (if inV (V.str _) ((["one", "road"] : List Str).map V.str) = true then _ else _) from ?_)
      rw [inV_str, decide_eq_false (by dsimp only [Frm.word]; decide)]
      refine iteF ?_
      refine ⟨_, rfl, rfl, _, rfl, ?_⟩
      refine (show (if decide (V.str _ = V.str _) = true then _ else _) from ifS_ne (by refine decide_eq_false ?_; dsimp only [Frm.word]; decide) ?_)
      refine ⟨_, rfl, rfl, _, rfl, ?_⟩
      refine (show (if decide (V.str _ = V.str _) = true then _ else _) from ifS_ne (by refine decide_eq_false ?_; dsimp only [Frm.word]; decide) ?_)
      have s0 := same_new (o := .tup [.str "one", .str "road"]) ht0
      have hT := SqT.tk hT (Same.tk s0)
      exact ⟨_, rfl, _, rfl, _, rfl, pt, _, -1, .str a, rfl, rfl, hT, rfl, sd, _, rfl, .inl ⟨kvs, .inr a, .inl (s0 _ _ gS), rfl, (hS a _ ea).symm⟩, q _ _ s0⟩
    | add fs =>
      obtain ⟨hn, h100, _, gs, hfs⟩ := hf
      refine ⟨_, rfl, (by show 2 ≤ 16777216; decide), fun t0 ht0 => ⟨t0, _, rfl, .inr (SqT.of upd_same), rfl, rfl, ?_⟩⟩
      refine ⟨_, rfl, ?_⟩
      refine (show (if inV (V.str _) ((["one", "road"] : List Str).map V.str) = true then _ else _) from ?_)
      rw [inV_str, decide_eq_false (by dsimp only [Frm.word]; decide)]
      refine iteF ?_
      refine ⟨_, rfl, rfl, _, rfl, ?_⟩
      refine (show (if decide (V.str _ = V.str _) = true then _ else _) from ifS_ne (by refine decide_eq_false ?_; dsimp only [Frm.word]; decide) ?_)
      refine ⟨_, rfl, rfl, _, rfl, ?_⟩
      refine (show (if decide (V.str _ = V.str _) = true then _ else _) from ifS_eq ?_)
      have s0 := same_new (o := .tup [.str "one", .str "road"]) ht0
      have hT := SqT.tk hT (Same.tk s0)
      have gS := s0 _ _ gS
      have hA := hA.mv (Same.tk s0)
      generalize upd H t0 (.tup [.str "one", .str "road"]) = H1 at *
      have hl : xs.length = fs.length := by
        rw [hA.len]
        show (fs.map fun f => PyData.tuple [facD f.1, .str f.2]).length = _
        rw [List.length_map]
      refine ⟨_, rfl, pt, rfl, ⟨_, hT⟩, fun D hD => ?_⟩
      refine lc_tup (K := K) (a := pt) (xs := xs) (fun i H' => Same H1 H' ∧ H' D = some (.lst (((fs.map fun f => szF kvs f.2).take i).map V.int))) ⟨same_new hD, upd_same⟩ (fun i H' _ ⟨s, _⟩ => SqT.tk hT (Same.tk s)) ?_ ?_
      · rintro i x H' hx ⟨s, g⟩
        obtain ⟨d, hd, hxd⟩ := hA.atV hx
        have hd : (fs.map fun f => PyData.tuple [facD f.1, .str f.2])[i]? = some d := hd
        rw [List.getElem?_map] at hd
        cases hf : fs[i]? with
        | none =>
          rw [hf] at hd
          cases hd
        | some f =>
          rw [hf] at hd
          cases Option.some.inj hd
          obtain ⟨fa, fb, rfl, h1, h2⟩ := hxd.facI
          refine ⟨fa, _, rfl, SqT.tk h1 (Same.tk s), rfl, _, _, rfl, _, _, rfl, rfl, rfl, ?_⟩
          refine ⟨_, rfl, _, rfl, sd, _, rfl, .inl ⟨kvs, .inr f.2, .inl (s _ _ gS), rfl, (hS f.2 _ (hfs f (List.mem_of_getElem? hf))).symm⟩, ?_⟩
          refine ⟨_, g, ?_, fun b u hu => ?_, ?_⟩
          · rw [List.length_map, List.length_take, List.length_map]
            exact Nat.lt_of_le_of_lt (show min i fs.length ≤ 100 by omega) (by decide)
          · rw [upd_ne (ne_of_none hu hD)]
            exact s _ _ hu
          · rw [upd_same, take_more (l := fs.map fun f => szF kvs f.2) (i := i) (x := szF kvs f.2) (by rw [List.getElem?_map, hf]; rfl), List.map_append]
            rfl
      · rintro H' ⟨s, g⟩
        rw [hl, show fs.length = (fs.map fun f => szF kvs f.2).length by rw [List.length_map], List.take_length] at g
        refine ⟨D, _, rfl, SqL.of g, ?_, fun m hm hh => ⟨_, _, rfl, rfl, q _ _ (s0.trans s)⟩⟩
        rw [List.length_map]
        exact List.length_pos_iff.mpr hn
end
end OG
set_option Elab.async false
set_option linter.all false
set_option maxRecDepth 100000
set_option maxHeartbeats 8000000
namespace OG
open PySem PySem.Spec PyProof.Rows L2
theorem op_eqDK {X : Cx} (K : PySem.W.Frag) (hu : X.A.units + 64 < cLine) (hK : X.K = K := by rfl) : OpR X (compareOp .Eq) (rEqD K) := hK ▸ op_eqD hu
theorem eqv_ints : ∀ xs ys : List Int, PyData.eqvAll (xs.map PyData.int) (ys.map PyData.int) = decide (xs = ys)
  | [], [] => by simp [PyData.eqvAll]
  | [], y :: ys => by simp [PyData.eqvAll]
  | x :: xs, [] => by simp [PyData.eqvAll]
  | x :: xs, y :: ys => by
    simp only [List.map_cons, PyData.eqvAll, PyData.eqv, eqv_ints xs ys]
    by_cases e : x = y <;> by_cases e2 : xs = ys <;> simp [e, e2]
theorem eqv_gs (xs ys : List Int) : PyData.eqv (gsD xs) (gsD ys) = decide (xs = ys) := by
  unfold gsD
  simp only [PyData.eqv]
  exact eqv_ints xs ys
theorem gsok_nil : GsOk [] := ⟨.nil, fun g h => by cases h⟩
theorem depth_ints : ∀ xs : List Int, PyData.depthAll (xs.map PyData.int) = 0
  | [] => by simp only [List.map_nil, PyData.depthAll]
  | z :: r => by
    simp only [List.map_cons, PyData.depthAll, PyData.depth, depth_ints r]
    rfl
theorem lay_intsP : ∀ xs : List Int, PyData.canLayAll0 (xs.map PyData.int) = true
  | [] => by simp [PyData.canLayAll0]
  | z :: r => by simp [PyData.canLayAll0, PyData.canLay0, lay_intsP r]
theorem shaped_gs {xs : List Int} (h : GsOk xs) : SeqAt.shaped (gsD xs) = true := by
  unfold SeqAt.shaped gsD
  rw [Bool.and_eq_true]
  refine ⟨?_, decide_eq_true ?_⟩
  · simp only [PyData.canLay0]
    exact lay_intsP xs
  · simp only [PyData.depth, depth_ints]
    decide
def kinP (kn : Kn) (gs : List Int) : V → Bool
  | .str z => decide (glk kn z = some gs)
  | _ => false
theorem filt_strs (P : V → Bool) (p : Str → Bool) (h : ∀ y, P (.str y) = p y) : ∀ xs : List Str, (xs.map V.str).filter P = (xs.filter p).map V.str
  | [] => rfl
  | x :: r => by
    rw [List.map_cons, List.filter_cons, List.filter_cons, h x, filt_strs P p h r]
    cases p x <;> rfl
theorem cut_strs (ns : List Str) (lo hi : Option Int) : ∃ zs : List Str, cutV (ns.map V.str) lo hi = zs.map V.str ∧ (∀ z ∈ zs, z ∈ ns) ∧ zs.length ≤ ns.length := by
  refine ⟨(ns.drop (HT.sIx ns.length 0 lo)).take (HT.sIx ns.length ns.length hi - HT.sIx ns.length 0 lo), ?_, fun z hz => List.mem_of_mem_drop (List.mem_of_mem_take hz), ?_⟩
  · unfold cutV
    rw [List.map_take, List.map_drop, List.length_map]
  · rw [List.length_take, List.length_drop]
    omega
theorem KnD.names {K : PySem.W.Frag} {H : Hp} {kvs : List (Key × V)} {kn : Kn} (h : KnD K H kvs kn) : (kvs.map fun kv => kV kv.1) = (kn.map (·.1)).map V.str := by
  induction h with
  | nil => rfl
  | cons _ _ ih =>
    rw [List.map_cons, List.map_cons, List.map_cons, ih]
    rfl
theorem glk_of {kn : Kn} {a : Str} (h : a ∈ kn.map (·.1)) : ∃ gs, glk kn a = some gs := by
  cases e : glk kn a with
  | none => exact absurd h (glk_none.mp e)
  | some gs => exact ⟨gs, rfl⟩
def tryForms : List Str := ["*", "add", "close", "turn"]
section
variable {P : Program} {w : World} {K : PySem.W.Frag} {mg : Str → Option Value} {base : Heap}
def spTry (K : PySem.W.Frag) : Sp := fun vs H Q _ => ∃ (p kd : Addr) (kn : Kn) (kvs : List (Key × V)) (w k : Nat) (form : Str), vs = [.ref p, .int 0, .int (w : Int), .ref kd, .str form] ∧ form ∈ tryForms ∧ H kd = some (.dK kvs) ∧ KnD K H kvs kn ∧ KnOk kn ∧
  1 ≤ kn.length ∧ kn.length ≤ 100 ∧ Pot (k + 40) H p ∧ (∀ H', Dr p k H H' → Q .non H') ∧ ∀ (a : Addr) (f : Frm) (H' : Hp), Dr p k H H' → H a = none → FrmOk kn f → Td K H' (.ref a) f.data → Q (.ref a) H'
theorem ok_l_script_try (T : Txt K mg) : FnOk P w K mg base CX0 4 T.f_l_script_try T.fd_l_script_try ["pot", "by", "width", "known", "form"] (spTry K) := by
  refine T.F_l_script_try.ok sc_l_script_try (fun vs H Q E h => ?_) (fun cdv A outer s H vs Q E hr h => ?_)
  · obtain ⟨p, kd, kn, kvs, w, k, form, rfl, _⟩ := h
    rfl
  · obtain ⟨p, kd, kn, kvs, w, k, form, rfl, hform, gk, hkn, hko, n1, n100, hP, q0, q⟩ := h
    refine ⟨_, (pss_cons (ps_set (i := 5) sc_l_script_try.nd rfl (Or.inl rfl) (pe_callTy (call_listD rfl) (by rfl) T.n_list (by decide +kernel) (pa_cons (pv 3) pa_nil)))
  (pss_cons (ps_set (i := 6) sc_l_script_try.nd rfl (Or.inl rfl) (pe_op op_cat (pe_op op_cat (pv 5) (pe_slice sl_list (pv 5) (po_some (pe_un un_neg pe_int)) po_none)) (pe_slice sl_list (pv 5) (po_some (pe_un un_neg pe_int)) po_none)))
  (pss_cons (ps_asg (pe_tup (pa_cons (pe_call (ok_l_of T) (hr.mono (by decide)) (by rfl) T.g_l_of T.F_l_of.kp T.b_l_of .nil pass0 (pa_cons (pv 0) (pa_cons (pv 6) pa_nil))) (pa_cons (pe_call (ok_l_of T) (hr.mono (by decide)) (by rfl) T.g_l_of T.F_l_of.kp T.b_l_of .nil pass0 (pa_cons (pv 0) (pa_cons (pv 6) pa_nil))) pa_nil))) (pg_tup (by rfl) (pgs_cons (pg_name (i := 7) sc_l_script_try.nd rfl (Or.inr rfl)) (pgs_cons (pg_name (i := 8) sc_l_script_try.nd rfl (Or.inr rfl)) pgs_nil))))
  (pss_cons (ps_if (pt_cmpR op_eq (pv 4) pe_str (nomark _)) (pss_cons (ps_set (i := 10) sc_l_script_try.nd rfl (Or.inl rfl) (pe_callB call_len_seq (by rfl) T.n_len PySem.boot_len (pa_cons (pe_lc (own := [("gate", 9)]) (g := gName 9) (by rfl) sc_l_script_try.nd (pi_tup (pe_tup (pa_cons pe_int (pa_cons pe_int (pa_cons pe_int (pa_cons pe_int pa_nil)))))) (blkOk_by (own := [("gate", 9)]) (by rfl)) (fun _ _ _ _ _ => (pg_name (i := 9) sc_l_script_try.nd rfl (Or.inl rfl))) (fun _ _ _ _ _ => (pts_one (pt_cmpR (op_in_seqK K) (pv 9) (pe_op (op_catAK K) (pe_dget (hu_of hr) (pv 3) (pv 7) (fun _ _ => rfl)) (pe_dget (hu_of hr) (pv 3) (pv 8) (fun _ _ => rfl))) rfl))) (fun _ _ _ _ _ => (pv 9))) pa_nil)))
  (pss_one (ps_ret (pe_ifExp (pt_cmpR op_le (pv 10) (pv 2) (nomark _)) (pe_tup (pa_cons pe_str (pa_cons (pe_tup (pa_cons (pv 7) (pa_cons (pv 8) pa_nil))) pa_nil))) pe_non)))) pss_nil)
  (pss_cons (ps_if (pt_cmpR op_eq (pv 4) pe_str (nomark _)) (pss_cons (ps_set (i := 11) sc_l_script_try.nd rfl (Or.inr rfl) (pe_lc (own := [("name", 14)]) (g := gName 14) (by rfl) sc_l_script_try.nd (pi_list (pv 6)) (blkOk_by (own := [("name", 14)]) (by rfl)) (fun _ _ _ _ _ => (pg_name (i := 14) sc_l_script_try.nd rfl (Or.inl rfl))) (fun _ _ _ _ _ => (pts_one (pt_cmpR (op_eqDK K hr.units) (pe_dget (hu_of hr) (pv 3) (pv 14) (fun _ _ => rfl)) (pe_dget (hu_of hr) (pv 3) (pv 7) (fun _ _ => rfl)) (nomark _)))) (fun _ _ _ _ _ => (pv 14))))
  (pss_cons (ps_setLc (i := 12) (own := [("lap", 15)]) (g := gName 15) (by rfl) sc_l_script_try.nd rfl rfl (sw_true rfl rfl rfl (by decide +kernel)) (pi_range1 (by rfl) T.n_range (pa_cons (pe_op op_add pe_int (pe_call (ok_l_take T) (hr.mono (by decide)) (by rfl) T.g_l_take T.F_l_take.kp T.b_l_take .nil pass0 (pa_cons (pv 0) (pa_cons pe_int pa_nil)))) pa_nil)) (blkOk_by (own := [("lap", 15)]) (by rfl)) (fun _ _ _ _ _ => (pg_name (i := 15) sc_l_script_try.nd rfl (Or.inl rfl))) (fun _ _ _ _ _ => pts_nil) (fun _ _ _ _ _ => (pe_call (ok_l_of T) (hr.mono (by decide)) (by rfl) T.g_l_of T.F_l_of.kp T.b_l_of .nil pass0 (pa_cons (pv 0) (pa_cons (pv 11) pa_nil)))))
  (pss_one (ps_ret (pe_tup (pa_cons pe_str (pa_cons (pe_callTy call_tuple_of (by rfl) T.n_tuple (by decide +kernel) (pa_cons (pe_lc (own := [("name", 14)]) (g := gName 14) (by rfl) sc_l_script_try.nd (pi_list (pv 12)) (blkOk_by (own := [("name", 14)]) (by rfl)) (fun _ _ _ _ _ => (pg_name (i := 14) sc_l_script_try.nd rfl (Or.inl rfl))) (fun _ _ _ _ _ => pts_nil) (fun _ _ _ _ _ => (pe_tup (pa_cons (pe_call (ok_l_script_factor_drawn T) (hr.mono (by decide)) (by rfl) T.g_l_script_factor_drawn T.F_l_script_factor_drawn.kp T.b_l_script_factor_drawn .nil pass0 (pa_cons (pv 0) (pa_cons (pv 1) pa_nil))) (pa_cons (pv 14) pa_nil))))) pa_nil)) pa_nil))))))) pss_nil)
  (pss_cons (ps_if (pt_cmpR (op_eqD hr.units) (pe_dget (hu_of hr) (pv 3) (pv 7) (fun _ _ => rfl)) (pe_tup pa_nil) (nomark _)) (pss_one (ps_ret pe_non)) pss_nil)
  (pss_cons (ps_set (i := 9) sc_l_script_try.nd rfl (Or.inr rfl) (pe_call (ok_l_ofT T) (hr.mono (by decide)) (by rfl) T.g_l_of T.F_l_of.kp T.b_l_of .nil pass0 (pa_cons (pv 0) (pa_cons (pe_dget (hu_of hr) (pv 3) (pv 7) (fun _ _ => rfl)) pa_nil))))
  (pss_cons (ps_if (pt_cmpR op_eq (pv 4) pe_str (nomark _)) (pss_one (ps_ret (pe_tup (pa_cons pe_str (pa_cons (pe_tup (pa_cons (pv 9) (pa_cons (pv 7) pa_nil))) pa_nil))))) pss_nil)
  (pss_cons (ps_set (i := 13) sc_l_script_try.nd rfl (Or.inl rfl) (pe_call (ok_l_of T) (hr.mono (by decide)) (by rfl) T.g_l_of T.F_l_of.kp T.b_l_of .nil pass0 (pa_cons (pv 0) (pa_cons (pe_lc (own := [("spot", 16)]) (g := gName 16) (by rfl) sc_l_script_try.nd (pi_tup (pe_tup (pa_cons pe_int (pa_cons pe_int (pa_cons pe_int (pa_cons pe_int pa_nil)))))) (blkOk_by (own := [("spot", 16)]) (by rfl)) (fun _ _ _ _ _ => (pg_name (i := 16) sc_l_script_try.nd rfl (Or.inl rfl))) (fun _ _ _ _ _ => (pts_one (pt_cmpR op_ne (pv 16) (pv 9) (nomark _)))) (fun _ _ _ _ _ => (pv 16))) pa_nil))))
  (pss_one (ps_ret (pe_tup (pa_cons pe_str (pa_cons (pe_ifExp (pt_cmpR op_eq (pe_call (ok_l_take T) (hr.mono (by decide)) (by rfl) T.g_l_take T.F_l_take.kp T.b_l_take .nil pass0 (pa_cons (pv 0) (pa_cons pe_int pa_nil))) pe_int (nomark _)) (pe_tup (pa_cons (pv 9) (pa_cons (pv 13) (pa_cons (pv 7) pa_nil)))) (pe_tup (pa_cons (pv 13) (pa_cons (pv 9) (pa_cons (pv 7) pa_nil))))) pa_nil)))))))))))))), ?_⟩
    have wide : ∀ {n : Nat}, n ≤ 1000 → n ≤ sizeLine := fun h => Nat.le_trans h (by decide)
    refine ⟨_, rfl, kd, kvs, rfl, .inl gk, fun nl hnl => ?_⟩
    rw [hkn.names]
    have d0 := (Dr.start hP (Nat.le_refl _)).new (o := .lst ((kn.map (·.1)).map V.str)) hnl
    have g0 : (upd H nl (.lst ((kn.map (·.1)).map V.str))) nl = some (.lst ((kn.map (·.1)).map V.str)) := upd_same
    generalize upd H nl (.lst ((kn.map (·.1)).map V.str)) = H0 at *
    obtain ⟨cs, ec, hc, lc⟩ := cut_strs (kn.map (·.1)) (some (-3)) none
    rw [List.length_map] at lc
    have nnl := hP.ne hnl
    refine ⟨_, rfl, _, rfl, _, rfl, _, rfl, nl, _, rfl, SqL.of g0, fun c1 hc1 => ?_⟩
    rw [ec]
    have s1 := same_new (o := .lst (cs.map V.str)) hc1
    refine ⟨nl, c1, _, _, rfl, rfl, s1 _ _ g0, upd_same, ?_, fun m1 hm1 => ?_⟩
    · rw [List.length_map, List.length_map, List.length_map]
      exact wide (by omega)
    rw [← List.map_append]
    have s2 := s1.trans (same_new (o := .lst ((kn.map (·.1) ++ cs).map V.str)) hm1)
    refine ⟨_, rfl, _, rfl, _, rfl, nl, _, rfl, SqL.of (s2 _ _ g0), fun c2 hc2 => ?_⟩
    rw [ec]
    have s3 := s2.trans (same_new (o := .lst (cs.map V.str)) hc2)
    refine ⟨m1, c2, _, _, rfl, rfl, by rw [upd_ne (ne_of_none upd_same hc2)]; exact upd_same, upd_same, ?_, fun ne hne => ?_⟩
    · rw [List.length_map, List.length_append, List.length_map, List.length_map]
      exact wide (by omega)
    rw [← List.map_append]
    obtain ⟨zs, ez⟩ : ∃ zs, zs = kn.map (·.1) ++ cs ++ cs := ⟨_, rfl⟩
    rw [← ez]
    have zmem : ∀ z ∈ zs, ∃ gs, glk kn z = some gs := fun z hz => by
      rw [ez] at hz
      rcases List.mem_append.mp hz with hz | hz
      · rcases List.mem_append.mp hz with hz | hz
        · exact glk_of hz
        · exact glk_of (hc z hz)
      · exact glk_of (hc z hz)
    have zl : 1 ≤ zs.length ∧ zs.length ≤ 300 := by
      rw [ez, List.length_append, List.length_append, List.length_map]
      omega
    have d1 := (d0.sm9 s3).new (o := .lst (zs.map V.str)) hne
    have gz : (upd (upd (upd (upd H0 c1 (.lst (cs.map V.str))) m1 (.lst ((kn.map (·.1) ++ cs).map V.str))) c2 (.lst (cs.map V.str))) ne (.lst (zs.map V.str))) ne = some (.lst (zs.map V.str)) := upd_same
    have nne := (d0.sm9 s3).2.ne hne
    generalize upd (upd (upd (upd H0 c1 (.lst (cs.map V.str))) m1 (.lst ((kn.map (·.1) ++ cs).map V.str))) c2 (.lst (cs.map V.str))) ne (.lst (zs.map V.str)) = H1 at *
    have zl2 : 0 < (zs.map V.str).length ∧ (zs.map V.str).length < 100000 := by
      rw [List.length_map]
      omega
    refine ⟨_, rfl, _, rfl, p, ne, _, k + 38, rfl, d1.2.mono (by omega), SqL.of gz, nne, zl2.1, zl2.2, fun i1 x1 H2 hx1 d2 => ?_⟩
    obtain ⟨z1, hz1, rfl⟩ := str_at hx1
    have gz2 := d2.st nne gz
    refine ⟨_, rfl, _, rfl, p, ne, _, k + 36, rfl, d2.2.mono (by omega), SqL.of gz2, nne, zl2.1, zl2.2, fun i2 x2 H3 hx2 d3 => ?_⟩
    obtain ⟨z2, hz2, rfl⟩ := str_at hx2
    refine ⟨wide (show 2 ≤ 1000 by decide), fun tw htw => ?_⟩
    have d4 := ((d1.trans d2).trans d3).new (o := .tup [.str z1, .str z2]) htw
    have gz4 : (upd H3 tw (.tup [.str z1, .str z2])) ne = some (.lst (zs.map V.str)) := same_new htw _ _ (d3.st nne gz2)
    refine ⟨tw, _, rfl, SqT.of upd_same, rfl, _, _, rfl, _, _, rfl, rfl, ?_⟩
    generalize upd H3 tw (.tup [.str z1, .str z2]) = H4 at *
    have tk4 := d4.tk hP
    have nkd := hP.neD gk
    have gk4 := d4.st nkd gk
    have hk4 := hkn.mv tk4
    obtain ⟨gs1, eg1⟩ := zmem z1 (List.mem_of_getElem? hz1)
    obtain ⟨gs2, eg2⟩ := zmem z2 (List.mem_of_getElem? hz2)
    obtain ⟨v1, vl1, vt1⟩ := hk4.get eg1
    obtain ⟨a1, rfl, va1⟩ := vt1.gs
    obtain ⟨v2, vl2, vt2⟩ := hk4.get eg2
    obtain ⟨a2, rfl, va2⟩ := vt2.gs
    have l1 := (hko.at eg1).len
    have l2 := (hko.at eg2).len
    unfold tryForms at hform
    simp only [List.mem_cons, List.mem_nil_iff, or_false] at hform
    rcases hform with rfl | rfl | rfl | rfl
    · -- "*"
      refine ⟨_, rfl, rfl, _, rfl, ?_⟩
      refine (show (if decide (V.str _ = V.str _) = true then _ else _) from ifS_eq ?_)
      refine ⟨wide (show 4 ≤ 1000 by decide), fun t4 ha => ?_⟩
      have s1 := same_new (o := .tup (([1, 2, 3, 4] : List Int).map V.int)) ha
      have g4 : (upd H4 t4 (.tup (([1, 2, 3, 4] : List Int).map V.int))) t4 = some (.tup (([1, 2, 3, 4] : List Int).map V.int)) := upd_same
      have e1 : upd H4 t4 (.tup [.int 1, .int 2, .int 3, .int 4]) = upd H4 t4 (.tup (([1, 2, 3, 4] : List Int).map V.int)) := rfl
      rw [e1]
      generalize upd H4 t4 (.tup (([1, 2, 3, 4] : List Int).map V.int)) = H5 at *
      refine ⟨t4, rfl, ⟨_, SqT.of g4⟩, fun D hD => ?_⟩
      refine lc_filtT (K := K) (a := t4) (xs := ([1, 2, 3, 4] : List Int).map V.int) (fun v => inV v ((gs1 ++ gs2).map V.int)) (by decide) hD (SqT.of g4) (fun _ => rfl) (fun x H' Q hx s2 kk => ?_) (fun x H' Q kk => ⟨_, rfl, kk⟩) (fun H' s2 gD => ?_)
      · obtain ⟨y, _, rfl⟩ := List.mem_map.mp hx
        have s5 := s1.trans s2
        refine ⟨_, rfl, _, rfl, _, rfl, kd, .ref a1, rfl, .inl ⟨kvs, .inr z1, .inl (s5 _ _ gk4), rfl, vl1.symm⟩, _, rfl, _, rfl, kd, .ref a2, rfl, .inl ⟨kvs, .inr z2, .inl (s5 _ _ gk4), rfl, vl2.symm⟩, ?_⟩
        refine catI (K := K) (SqT.tk va1 (Same.tk s5)) (SqT.tk va2 (Same.tk s5)) (by rw [List.length_map, List.length_map]; omega) fun bt H0 s0 g0 => ?_
        rw [← List.map_append] at g0
        exact ⟨bt, _, rfl, .inr g0, rfl, flat_ints _, _, rfl, kk _ s0⟩
      · refine ⟨D, _, rfl, .inl (SqL.of gD), ?_⟩
        have d6 := (d4.sm9 s1).sm9 s2
        refine ⟨_, rfl, _, rfl, _, _, rfl, rfl, _, rfl, ?_⟩
        refine ite2 (fun _ => ?_) (fun _ => ?_)
        · refine ⟨_, rfl, _, rfl, wide (show 2 ≤ 1000 by decide), fun t ht => ⟨wide (show 2 ≤ 1000 by decide), fun a ha => ?_⟩⟩
          have gt : (upd H' t (.tup [.str z1, .str z2])) t = some (.tup [.str z1, .str z2]) := upd_same
          refine q a (.prod z1 z2) _ (((d6.new ht).new ha).mono (by omega)) ((d6.new ht).fr ha) ⟨⟨_, eg1⟩, _, eg2⟩ ?_
          exact .tup (SqT.of upd_same) (.cons (.str _) (.cons (.tup (SqT.of (same_new ha _ _ gt)) (.cons (.str _) (.cons (.str _) .nil))) .nil))
        · exact q0 _ (d6.mono (by omega))
    · -- "add"
      refine ⟨_, rfl, rfl, _, rfl, ?_⟩
      refine (show (if decide (V.str _ = V.str _) = true then _ else _) from ifS_ne (by decide) ?_)
      refine ⟨_, rfl, rfl, _, rfl, ?_⟩
      refine (show (if decide (V.str _ = V.str _) = true then _ else _) from ifS_eq ?_)
      refine ⟨_, rfl, ne, rfl, ⟨_, SqL.of gz4⟩, fun D hD => ?_⟩
      refine lc_filtL (K := K) (a := ne) (xs := zs.map V.str) (kinP kn gs1) (by rw [List.length_map]; omega) hD (SqL.of gz4) (fun _ => rfl) (fun x H' Q hx s2 kk => ?_) (fun x H' Q kk => ⟨_, rfl, kk⟩) (fun H' s2 gD => ?_)
      · obtain ⟨y, hy, rfl⟩ := List.mem_map.mp hx
        obtain ⟨gy, ey⟩ := zmem y hy
        obtain ⟨vy, vly, vty⟩ := hk4.get ey
        refine ⟨_, rfl, _, rfl, kd, vy, rfl, .inl ⟨kvs, .inr y, .inl (s2 _ _ gk4), rfl, vly.symm⟩, _, rfl, _, rfl, kd, .ref a1, rfl, .inl ⟨kvs, .inr z1, .inl (s2 _ _ gk4), rfl, vl1.symm⟩, ?_⟩
        refine ⟨gsD gy, gsD gs1, (vty.mv (Same.tk s2)).dp, (vt1.mv (Same.tk s2)).dp, shaped_gs (hko.at ey), shaped_gs (hko.at eg1), _, rfl, ?_⟩
        rw [eqv_gs, show decide (gy = gs1) = kinP kn gs1 (.str y) by
          show _ = decide (glk kn y = some gs1)
          rw [ey]
          exact decide_eq_decide.mpr ⟨congrArg some, Option.some.inj⟩]
        exact kk _ (Same.refl _)
      rw [filt_strs (kinP kn gs1) (fun z => decide (glk kn z = some gs1)) (fun _ => rfl)] at gD
      obtain ⟨ks, eks⟩ : ∃ ks, ks = zs.filter fun z => decide (glk kn z = some gs1) := ⟨_, rfl⟩
      rw [← eks] at gD
      have kok : ∀ z ∈ ks, glk kn z = some gs1 := fun z hz => by
        rw [eks] at hz
        exact of_decide_eq_true (List.mem_filter.mp hz).2
      have kl : 0 < (ks.map V.str).length ∧ (ks.map V.str).length < 100000 := by
        rw [List.length_map, eks]
        refine ⟨List.length_pos_iff.mpr fun e => ?_, Nat.lt_of_le_of_lt (List.length_filter_le _ _) (by omega)⟩
        have : z1 ∈ zs.filter fun z => decide (glk kn z = some gs1) := List.mem_filter.mpr ⟨List.mem_of_getElem? hz1, decide_eq_true eg1⟩
        rw [e] at this
        cases this
      have d5 := d4.sm9 s2
      have nDp : D ≠ p := d4.2.ne hD
      refine ⟨_, rfl, p, 3, k + 30, rfl, d5.2.mono (by omega), by decide, by decide, fun r H6 r0 r1 d6 => ?_⟩
      obtain ⟨n, hn⟩ : ∃ n : Nat, (1 : Int) + r = (n : Int) := ⟨(1 + r).toNat, by omega⟩
      have n13 : 1 ≤ n ∧ n ≤ 3 := by omega
      have gD6 := d6.st nDp gD
      refine ⟨_, _, rfl, rfl, (n : Int), congrArg (fun z => [V.int z]) hn, (by omega), (by omega), fun D2 hD2 => ?_⟩
      have nD2 : D2 ≠ p := d6.2.ne hD2
      refine lc_range (lo := 0) (n := n) (fun i H' => i ≤ n ∧ Dr p (k + 30 - i) H6 H' ∧ ∃ bs : List Str, H' D2 = some (.lst (bs.map V.str)) ∧ bs.length = i ∧ ∀ z ∈ bs, z ∈ ks) ⟨Nat.zero_le _, (Dr.start d6.2 (by omega)).new hD2, [], upd_same, rfl, fun _ h => by cases h⟩ ?_ ?_
      · rintro i H' hi ⟨_, d7, bs, hbs, hbl, hba⟩
        refine ⟨rfl, ?_⟩
        refine ⟨_, rfl, _, rfl, p, D, _, k + 30 - i - 1, rfl, d7.2.mono (by omega), SqL.of (d7.st nDp gD6), nDp, kl.1, kl.2, fun j x H8 hx d8 => ?_⟩
        obtain ⟨z, hz, rfl⟩ := str_at hx
        refine ⟨_, d8.st nD2 hbs, by rw [List.length_map]; exact Nat.lt_of_le_of_lt (show bs.length ≤ 3 by omega) (by decide), hi, ((d7.trans d8).mut hD2 nD2).mono (by omega), bs ++ [z], ?_, by rw [List.length_append, hbl]; rfl, fun y hy => ?_⟩
        · rw [upd_same, List.map_append]
          rfl
        · rcases List.mem_append.mp hy with hy | hy
          · exact hba y hy
          · rw [List.mem_singleton.mp hy]
            exact List.mem_of_getElem? hz
      rintro H7 ⟨_, d7, bs, hbs, hbl, hba⟩
      have d07 := (d5.trans d6).trans d7
      refine ⟨_, rfl, D2, rfl, ⟨_, SqL.of hbs⟩, fun D3 hD3 => ?_⟩
      have nD3 : D3 ≠ p := d7.2.ne hD3
      refine lc_list (K := K) (a := D2) (xs := bs.map V.str) (fun i H' => i ≤ n ∧ Dr p (k + 20 - 2 * i) H7 H' ∧ ∃ (ys : List V) (fs : List (Fac × Str)), H' D3 = some (.lst ys) ∧ TdAll K H' ys (fs.map fun f => .tuple [facD f.1, .str f.2]) ∧ fs.length = i ∧ (∀ f ∈ fs, FacOk f.1) ∧ ∀ f ∈ fs, f.2 ∈ ks)
        ⟨Nat.zero_le _, ((Dr.start d7.2 (by omega)).new hD3), [], [], upd_same, .nil, rfl, fun _ h => (by cases h), fun _ h => (by cases h)⟩ (fun i H' _ ⟨_, d, _⟩ => SqL.of (d.st nD2 hbs)) ?_ ?_
      · rintro i x H' hx ⟨_, d8, ys, fs, g3, ht, hl, hf, hk⟩
        obtain ⟨z, hz, rfl⟩ := str_at hx
        have hi : i < n := by
          have := (List.getElem?_eq_some_iff.mp hz).1
          omega
        refine ⟨rfl, ?_⟩
        refine ⟨_, rfl, _, rfl, p, k + 20 - 2 * i - 2, rfl, d8.2.mono (by omega), fun fa f H9 d9 nfa fo gfa => ?_⟩
        refine ⟨_, rfl, wide (show 2 ≤ 1000 by decide), fun tt htt => ?_⟩
        have st := same_new (o := .tup [.ref fa, .str z]) htt
        have g39 := st _ _ (d9.st nD3 g3)
        refine ⟨_, g39, ?_, hi, (((d8.trans d9).new htt).mut hD3 nD3).mono (by omega), ys ++ [.ref tt], fs ++ [(f, z)], ?_, ?_, ?_, ?_, ?_⟩
        · have := ht.len
          rw [List.length_map] at this
          exact Nat.lt_of_le_of_lt (show ys.length ≤ 3 by omega) (by decide)
        · exact upd_same
        · have tk : TK H' (upd (upd H9 tt (.tup [.ref fa, .str z])) D3 (.lst (ys ++ [.ref tt]))) := ((d9.tk d8.2).trans (Same.tk st)).trans (tk_lst g39)
          rw [List.map_append]
          refine TdAll.snoc ?_ (ht.mv tk)
          have tk2 := tk_lst (o := .lst (ys ++ [.ref tt])) g39
          refine .tup (SqT.tk (SqT.of upd_same) tk2) (.cons (.tup (SqT.tk (SqT.of (st _ _ gfa)) tk2) (.cons (.int _) (.cons (.int _) .nil))) (.cons (.str _) .nil))
        · rw [List.length_append, hl]
          rfl
        · intro y hy
          rcases List.mem_append.mp hy with hy | hy
          · exact hf y hy
          · rw [List.mem_singleton.mp hy]
            exact fo
        · intro y hy
          rcases List.mem_append.mp hy with hy | hy
          · exact hk y hy
          · rw [List.mem_singleton.mp hy]
            exact hba z (List.mem_of_getElem? hz)
      rintro H8 ⟨_, d8, ys, fs, g3, ht, hl, hf, hk⟩
      rw [List.length_map, hbl] at hl
      refine ⟨D3, _, rfl, .inl ⟨SqL.of g3, fun t ht' => ⟨wide (show 2 ≤ 1000 by decide), fun a ha => ?_⟩⟩⟩
      have st := same_new (o := .tup ys) ht'
      have gt : (upd H8 t (.tup ys)) t = some (.tup ys) := upd_same
      have sa := same_new (o := .tup [.str "add", .ref t]) ha
      have d9 := (d07.trans d8).new (o := .tup ys) ht'
      refine q a (.add fs) _ ((d9.new ha).mono (by omega)) (d9.fr ha) ⟨fun e => ?_, by omega, hf, gs1, fun f hf => kok _ (hk f hf)⟩ ?_
      · rw [e] at hl
        exact absurd hl (by show ¬ (0 = n); omega)
      · exact .tup (SqT.of upd_same) (.cons (.str _) (.cons (.tup (SqT.of (sa _ _ gt)) (ht.mv (Same.tk (st.trans sa)))) .nil))
    · refine ⟨_, rfl, rfl, _, rfl, ?_⟩
      refine (show (if decide (V.str _ = V.str _) = true then _ else _) from ifS_ne (by decide) ?_)
      refine ⟨_, rfl, rfl, _, rfl, ?_⟩
      refine (show (if decide (V.str _ = V.str _) = true then _ else _) from ifS_ne (by decide) ?_)
      refine ⟨_, rfl, _, rfl, kd, .ref a1, rfl, .inl ⟨kvs, .inr z1, .inl gk4, rfl, vl1.symm⟩, wide (show 0 ≤ 1000 by decide), fun te hte => ?_⟩
      have se := same_new (o := .tup []) hte
      refine ⟨gsD gs1, gsD [], (vt1.mv (Same.tk se)).dp, .tup (SqT.of upd_same) .nil, shaped_gs (hko.at eg1), shaped_gs gsok_nil, _, rfl, ?_⟩
      rw [eqv_gs]
      have d5 := d4.new (o := .tup []) hte
      by_cases e0 : gs1 = []
      · rw [decide_eq_true e0]
        refine iteT ?_
        exact q0 _ (d5.mono (by omega))
      rw [decide_eq_false e0]
      refine iteF ?_
      have va5 := SqT.tk va1 (Same.tk se)
      have gk5 := se _ _ gk4
      generalize upd H4 te (.tup []) = H5 at *
      refine ⟨_, rfl, _, rfl, _, rfl, kd, .ref a1, rfl, .inl ⟨kvs, .inr z1, .inl gk5, rfl, vl1.symm⟩, p, a1, _, k + 30, rfl, d5.2.mono (by omega), va5, ?_, ?_, fun i x H6 hx d6 => ?_⟩
      · rw [List.length_map]
        exact List.length_pos_iff.mpr e0
      · rw [List.length_map]
        omega
      obtain ⟨g, hg, rfl⟩ := int_at hx
      have gm := List.mem_of_getElem? hg
      have d6 := d5.trans d6
      refine ⟨_, rfl, rfl, _, rfl, ?_⟩
      refine (show (if decide (V.str _ = V.str _) = true then _ else _) from ifS_eq ?_)
      refine ⟨_, rfl, _, rfl, wide (show 2 ≤ 1000 by decide), fun t ht => ⟨wide (show 2 ≤ 1000 by decide), fun a ha => ?_⟩⟩
      have gt : (upd H6 t (.tup [.int g, .str z1])) t = some (.tup [.int g, .str z1]) := upd_same
      refine q a (.close g z1) _ (((d6.new ht).new ha).mono (by omega)) ((d6.new ht).fr ha) ⟨gs1, eg1, gm⟩ ?_
      exact .tup (SqT.of upd_same) (.cons (.str _) (.cons (.tup (SqT.of (same_new ha _ _ gt)) (.cons (.int _) (.cons (.str _) .nil))) .nil))
    · refine ⟨_, rfl, rfl, _, rfl, ?_⟩
      refine (show (if decide (V.str _ = V.str _) = true then _ else _) from ifS_ne (by decide) ?_)
      refine ⟨_, rfl, rfl, _, rfl, ?_⟩
      refine (show (if decide (V.str _ = V.str _) = true then _ else _) from ifS_ne (by decide) ?_)
      refine ⟨_, rfl, _, rfl, kd, .ref a1, rfl, .inl ⟨kvs, .inr z1, .inl gk4, rfl, vl1.symm⟩, wide (show 0 ≤ 1000 by decide), fun te hte => ?_⟩
      have se := same_new (o := .tup []) hte
      refine ⟨gsD gs1, gsD [], (vt1.mv (Same.tk se)).dp, .tup (SqT.of upd_same) .nil, shaped_gs (hko.at eg1), shaped_gs gsok_nil, _, rfl, ?_⟩
      rw [eqv_gs]
      have d5 := d4.new (o := .tup []) hte
      by_cases e0 : gs1 = []
      · rw [decide_eq_true e0]
        refine iteT ?_
        exact q0 _ (d5.mono (by omega))
      rw [decide_eq_false e0]
      refine iteF ?_
      have va5 := SqT.tk va1 (Same.tk se)
      have gk5 := se _ _ gk4
      generalize upd H4 te (.tup []) = H5 at *
      refine ⟨_, rfl, _, rfl, _, rfl, kd, .ref a1, rfl, .inl ⟨kvs, .inr z1, .inl gk5, rfl, vl1.symm⟩, p, a1, _, k + 30, rfl, d5.2.mono (by omega), va5, ?_, ?_, fun i x H6 hx d6 => ?_⟩
      · rw [List.length_map]
        exact List.length_pos_iff.mpr e0
      · rw [List.length_map]
        omega
      obtain ⟨g, hg, rfl⟩ := int_at hx
      have gm := List.mem_of_getElem? hg
      have d6 := d5.trans d6
      refine ⟨_, rfl, rfl, _, rfl, ?_⟩
      refine (show (if decide (V.str _ = V.str _) = true then _ else _) from ifS_ne (by decide) ?_)
      have g14 := (hko.at eg1).rng g gm
      refine ⟨_, rfl, wide (show 4 ≤ 1000 by decide), fun t4 ha => ?_⟩
      have s1 := same_new (o := .tup (([1, 2, 3, 4] : List Int).map V.int)) ha
      have g4 : (upd H6 t4 (.tup (([1, 2, 3, 4] : List Int).map V.int))) t4 = some (.tup (([1, 2, 3, 4] : List Int).map V.int)) := upd_same
      have e1 : upd H6 t4 (.tup [.int 1, .int 2, .int 3, .int 4]) = upd H6 t4 (.tup (([1, 2, 3, 4] : List Int).map V.int)) := rfl
      rw [e1]
      generalize upd H6 t4 (.tup (([1, 2, 3, 4] : List Int).map V.int)) = H7 at *
      refine ⟨t4, rfl, ⟨_, SqT.of g4⟩, fun D hD => ?_⟩
      refine lc_filtT (K := K) (a := t4) (xs := ([1, 2, 3, 4] : List Int).map V.int) (fun v => !decide (v = .int g)) (by decide) hD (SqT.of g4) (fun _ => rfl) (fun x H' Q hx s2 kk => ?_) (fun x H' Q kk => ⟨_, rfl, kk⟩) (fun H' s2 gD => ?_)
      · obtain ⟨y, _, rfl⟩ := List.mem_map.mp hx
        exact ⟨_, rfl, _, rfl, rfl, _, rfl, kk _ (Same.refl _)⟩
      rw [filt_ints _ (fun x => !decide (x = g)) (fun y => by rw [show decide (V.int y = V.int g) = decide (y = g) from decide_eq_decide.mpr ⟨V.int.inj, congrArg V.int⟩])] at gD
      have nDp : D ≠ p := (d6.sm9 s1).2.ne hD
      have d8 := (d6.sm9 s1).sm9 s2
      refine ⟨p, D, _, k + 20, rfl, d8.2.mono (by omega), SqL.of gD, nDp, ?_, ?_, fun j x H9 hx d9 => ?_⟩
      · rw [List.length_map]
        exact g1234 g g14.1 g14.2
      · rw [List.length_map]
        exact Nat.lt_of_le_of_lt (List.length_filter_le _ _) (by decide)
      obtain ⟨h, hh, rfl⟩ := int_at hx
      have hh := List.mem_filter.mp (List.mem_of_getElem? hh)
      have h14 : 1 ≤ h ∧ h ≤ 4 := by
        have := hh.1
        simp only [List.mem_cons, List.mem_nil_iff, or_false] at this
        omega
      have hne : h ≠ g := fun e => by
        have := hh.2
        rw [e] at this
        simp at this
      have d9 := d8.trans d9
      refine ⟨_, rfl, p, 2, k + 10, rfl, d9.2.mono (by omega), by decide, by decide, fun r H10 r0 r1 d10 => ⟨rfl, _, rfl, ?_⟩⟩
      have d10 := d9.trans d10
      refine ite2 (fun _ => ?_) (fun _ => ?_)
      · refine ⟨_, rfl, _, rfl, _, rfl, wide (show 3 ≤ 1000 by decide), fun t ht => ⟨wide (show 2 ≤ 1000 by decide), fun a ha => ?_⟩⟩
        have gt : (upd H10 t (.tup [.int g, .int h, .str z1])) t = some (.tup [.int g, .int h, .str z1]) := upd_same
        refine q a (.turn g h z1) _ (((d10.new ht).new ha).mono (by omega)) ((d10.new ht).fr ha) ⟨fun e => hne e.symm, g14, h14, gs1, eg1, .inl gm⟩ ?_
        exact .tup (SqT.of upd_same) (.cons (.str _) (.cons (.tup (SqT.of (same_new ha _ _ gt)) (.cons (.int _) (.cons (.int _) (.cons (.str _) .nil)))) .nil))
      · refine ⟨_, rfl, _, rfl, _, rfl, wide (show 3 ≤ 1000 by decide), fun t ht => ⟨wide (show 2 ≤ 1000 by decide), fun a ha => ?_⟩⟩
        have gt : (upd H10 t (.tup [.int h, .int g, .str z1])) t = some (.tup [.int h, .int g, .str z1]) := upd_same
        refine q a (.turn h g z1) _ (((d10.new ht).new ha).mono (by omega)) ((d10.new ht).fr ha) ⟨hne, h14, g14, gs1, eg1, .inr gm⟩ ?_
        exact .tup (SqT.of upd_same) (.cons (.str _) (.cons (.tup (SqT.of (same_new ha _ _ gt)) (.cons (.int _) (.cons (.int _) (.cons (.str _) .nil)))) .nil))
end
end OG
set_option Elab.async false
set_option linter.all false
set_option maxRecDepth 100000
set_option maxHeartbeats 8000000
namespace OG
open PySem PySem.Spec PyProof.Rows L2
/-- a text that can be laid, and is short -/
structure Nice (z : Str) : Prop where
  ok : PyData.strOk z = true
  len : z.length ≤ 8
  lo : ∀ c ∈ tl z, 48 ≤ c
  hi : ∀ c ∈ tl z, c < 128
def Frm.strs : Frm → List Str
  | .one _ => []
  | .road k _ _ => [k]
  | .prod a b => [a, b]
  | .close _ a => [a]
  | .turn _ _ a => [a]
  | .add fs => fs.map (·.2)
structure LnNice (l : Ln) : Prop where
  nm : Nice l.nm
  fm : ∀ z ∈ l.fm.strs, Nice z
theorem nice_nm {z : Str} (h : IsNm z) : Nice z := by
  refine ⟨?_, Nat.le_trans h.2.1 (by decide), fun c hc => ?_, fun c hc => ?_⟩
  rotate_left
  · have := h.2.2 c hc
    unfold abc at this
    simp only [List.mem_cons, List.mem_nil_iff, or_false] at this
    omega
  · have := h.2.2 c hc
    unfold abc at this
    simp only [List.mem_cons, List.mem_nil_iff, or_false] at this
    omega
  unfold PyData.strOk
  rw [← Array.all_toList, List.all_eq_true]
  intro c hc
  have := h.2.2 c hc
  unfold abc at this
  refine decide_eq_true ?_
  simp only [List.mem_cons, List.mem_nil_iff, or_false] at this
  omega
theorem nice_at {i : Nat} {z : Str} (h : NmAt i z) : Nice z := by
  refine ⟨?_, Nat.le_trans h.len.2 (by decide), fun c hc => ?_, fun c hc => ?_⟩
  rotate_left
  · have := h.nice c hc
    unfold niceC at this
    simp only [Bool.or_eq_true, Bool.and_eq_true, decide_eq_true_eq] at this
    omega
  · have := h.nice c hc
    unfold niceC at this
    simp only [Bool.or_eq_true, Bool.and_eq_true, decide_eq_true_eq] at this
    omega
  unfold PyData.strOk
  rw [← Array.all_toList, List.all_eq_true]
  intro c hc
  have := h.nice c hc
  unfold niceC at this
  refine decide_eq_true ?_
  simp only [Bool.or_eq_true, Bool.and_eq_true, decide_eq_true_eq] at this
  omega
theorem FrmOk.nice {kn : Kn} (hn : ∀ z ∈ kn.map (·.1), Nice z) : ∀ {f : Frm}, FrmOk kn f → ∀ z ∈ f.strs, Nice z := by
  have key : ∀ {a : Str} {gs : List Int}, glk kn a = some gs → Nice a := fun h => hn _ (List.mem_map.mpr ⟨_, glk_some h, rfl⟩)
  intro f h z hz
  cases f with
  | one gs => cases hz
  | road k g h' =>
    rw [List.mem_singleton.mp hz]
    exact nice_nm h.1
  | prod a b =>
    obtain ⟨⟨ga, ea⟩, gb, eb⟩ := h
    have hz : z ∈ [a, b] := hz
    simp only [List.mem_cons, List.mem_nil_iff, or_false] at hz
    rcases hz with rfl | rfl
    · exact key ea
    · exact key eb
  | close g a =>
    obtain ⟨gs, e, _⟩ := h
    rw [List.mem_singleton.mp hz]
    exact key e
  | turn g h' a =>
    obtain ⟨_, _, _, gs, e, _⟩ := h
    rw [List.mem_singleton.mp hz]
    exact key e
  | add fs =>
    obtain ⟨_, _, _, gs, e⟩ := h
    obtain ⟨f, hf, rfl⟩ := List.mem_map.mp hz
    exact key (e f hf)
theorem FrmOk.fit {kn : Kn} {f : Frm} (hk : KnOk kn) (h : FrmOk kn f) (n : ∀ z ∈ f.strs, Nice z) : FrmFit f := by
  cases f with
  | one gs => exact h
  | road k g h' => exact ⟨(n k List.mem_cons_self).len, h.2.1, h.2.2⟩
  | prod a b => exact ⟨(n a List.mem_cons_self).len, (n b (List.mem_cons_of_mem _ List.mem_cons_self)).len⟩
  | close g a =>
    obtain ⟨gs, e, hg⟩ := h
    exact ⟨(hk.at e).rng g hg, (n a List.mem_cons_self).len⟩
  | turn g h' a =>
    obtain ⟨_, h1, h2, _⟩ := h
    exact ⟨h1, h2, (n a List.mem_cons_self).len⟩
  | add fs =>
    obtain ⟨_, h1, h2, _⟩ := h
    exact ⟨h1, fun f hf => ⟨h2 f hf, (n f.2 (List.mem_map.mpr ⟨f, hf, rfl⟩)).len⟩⟩
/-! lines as data: they can be laid -/
theorem lay_all : ∀ {ds : List PyData}, (∀ d ∈ ds, d.canLay0 = true) → PyData.canLayAll0 ds = true
  | [], _ => by simp [PyData.canLayAll0]
  | d :: r, h => by simp [PyData.canLayAll0, h d List.mem_cons_self, lay_all fun y hy => h y (List.mem_cons_of_mem _ hy)]
theorem dep_all : ∀ {ds : List PyData} {n : Nat}, (∀ d ∈ ds, d.depth ≤ n) → PyData.depthAll ds ≤ n
  | [], n, _ => by simp [PyData.depthAll]
  | d :: r, n, h => by
    have := h d List.mem_cons_self
    have := dep_all (n := n) fun y hy => h y (List.mem_cons_of_mem _ hy)
    simp only [PyData.depthAll]
    omega
theorem facs_lay {f : Fac × Str} (h : Nice f.2) : (PyData.tuple [facD f.1, .str f.2]).canLay0 = true ∧ (PyData.tuple [facD f.1, .str f.2]).depth ≤ 2 := by
  refine ⟨?_, ?_⟩
  · simp [PyData.canLay0, PyData.canLayAll0, facD, h.ok]
  · simp [PyData.depth, PyData.depthAll, facD]
theorem parts_lay {f : Frm} (h : ∀ z ∈ f.strs, Nice z) : ∀ d ∈ f.partsL, d.canLay0 = true ∧ d.depth ≤ 2 := by
  have str : ∀ {z : Str}, Nice z → (PyData.str z).canLay0 = true ∧ (PyData.str z).depth ≤ 2 := fun h => ⟨by simp [PyData.canLay0, h.ok], by simp [PyData.depth]⟩
  have int : ∀ {z : Int}, (PyData.int z).canLay0 = true ∧ (PyData.int z).depth ≤ 2 := ⟨by simp [PyData.canLay0], by simp [PyData.depth]⟩
  intro d hd
  cases f with
  | one gs =>
    obtain ⟨g, _, rfl⟩ := List.mem_map.mp hd
    exact int
  | road k g h' =>
    have hd : d ∈ [PyData.str k, .int g, .int h'] := hd
    simp only [List.mem_cons, List.mem_nil_iff, or_false] at hd
    rcases hd with rfl | rfl | rfl
    · exact str (h k List.mem_cons_self)
    · exact int
    · exact int
  | prod a b =>
    have hd : d ∈ [PyData.str a, .str b] := hd
    simp only [List.mem_cons, List.mem_nil_iff, or_false] at hd
    rcases hd with rfl | rfl
    · exact str (h a List.mem_cons_self)
    · exact str (h b (List.mem_cons_of_mem _ List.mem_cons_self))
  | close g a =>
    have hd : d ∈ [PyData.int g, .str a] := hd
    simp only [List.mem_cons, List.mem_nil_iff, or_false] at hd
    rcases hd with rfl | rfl
    · exact int
    · exact str (h a List.mem_cons_self)
  | turn g h' a =>
    have hd : d ∈ [PyData.int g, .int h', .str a] := hd
    simp only [List.mem_cons, List.mem_nil_iff, or_false] at hd
    rcases hd with rfl | rfl | rfl
    · exact int
    · exact int
    · exact str (h a List.mem_cons_self)
  | add fs =>
    obtain ⟨f, hf, rfl⟩ := List.mem_map.mp hd
    exact facs_lay (h f.2 (List.mem_map.mpr ⟨f, hf, rfl⟩))
theorem word_ok (f : Frm) : PyData.strOk f.word = true := by cases f <;> (dsimp only [Frm.word]; decide +kernel)
theorem ln_lay {l : Ln} (h : LnNice l) : l.data.canLay0 = true ∧ l.data.depth ≤ 4 := by
  have p := parts_lay h.fm
  have d1 := dep_all (n := 2) fun d hd => (p d hd).2
  refine ⟨?_, ?_⟩
  · unfold Ln.data
    simp only [PyData.canLay0, PyData.canLayAll0, h.nm.ok, word_ok, lay_all fun d hd => (p d hd).1]
    rfl
  · unfold Ln.data
    simp only [PyData.depth, PyData.depthAll]
    omega
theorem lns_shaped {lns : List Ln} (h : ∀ l ∈ lns, LnNice l) : SeqAt.shaped (.list (lns.map Ln.data)) = true ∧ SeqAt.shaped (.tuple (lns.map Ln.data)) = true := by
  have h1 : PyData.canLayAll0 (lns.map Ln.data) = true := lay_all fun d hd => by
    obtain ⟨l, hl, rfl⟩ := List.mem_map.mp hd
    exact (ln_lay (h l hl)).1
  have h2 : PyData.depthAll (lns.map Ln.data) ≤ 4 := dep_all fun d hd => by
    obtain ⟨l, hl, rfl⟩ := List.mem_map.mp hd
    exact (ln_lay (h l hl)).2
  refine ⟨?_, ?_⟩
  · unfold SeqAt.shaped
    rw [Bool.and_eq_true]
    refine ⟨by simp only [PyData.canLay0]; exact h1, decide_eq_true ?_⟩
    simp only [PyData.depth]
    omega
  · unfold SeqAt.shaped
    rw [Bool.and_eq_true]
    refine ⟨by simp only [PyData.canLay0]; exact h1, decide_eq_true ?_⟩
    simp only [PyData.depth]
    omega
theorem lns_eqnil (lns : List Ln) : PyData.eqv (.list (lns.map Ln.data)) (.list []) = decide (lns = []) := by
  cases lns with
  | nil => simp [PyData.eqv, PyData.eqvAll]
  | cons d r => simp [PyData.eqv, PyData.eqvAll]
end OG
set_option Elab.async false
set_option linter.all false
set_option maxRecDepth 100000
set_option maxHeartbeats 8000000
namespace OG
open PySem PySem.Spec PyProof.Rows L2
structure I9 (K : PySem.W.Frag) (p lp kd sd : Addr) (H : Hp) (k : Nat) (lns : List Ln) (xs : List V) (kvs skvs : List (Key × V)) (H' : Hp) : Prop where
  dr : Dr p k H H'
  gl : H' lp = some (.lst xs)
  gk : H' kd = some (.dK kvs)
  gs : H' sd = some (.dK skvs)
  td : TdAll K H' xs (lns.map Ln.data)
  kn : KnD K H' kvs (knOf [] lns)
  sz : SzOk (knOf [] lns) skvs
structure N9 (p lp kd sd : Addr) (H : Hp) : Prop where
  nl : lp ≠ p
  nk : kd ≠ p
  ns : sd ≠ p
  fl : H lp = none
  fk : H kd = none
  fs : H sd = none
  ks : kd ≠ sd
theorem I9.mv {K : PySem.W.Frag} {p lp kd sd : Addr} {H H1 H2 : Hp} {k j : Nat} {lns : List Ln} {xs : List V} {kvs skvs : List (Key × V)} (h : I9 K p lp kd sd H k lns xs kvs skvs H1) (n : N9 p lp kd sd H) (d : Dr p j H1 H2) : I9 K p lp kd sd H j lns xs kvs skvs H2 :=
  ⟨h.dr.trans d, d.st n.nl h.gl, d.st n.nk h.gk, d.st n.ns h.gs, h.td.mv (d.tk h.dr.2), h.kn.mv (d.tk h.dr.2), h.sz⟩
theorem I9.sm {K : PySem.W.Frag} {p lp kd sd : Addr} {H H1 H2 : Hp} {k : Nat} {lns : List Ln} {xs : List V} {kvs skvs : List (Key × V)} (h : I9 K p lp kd sd H k lns xs kvs skvs H1) (s : Same H1 H2) : I9 K p lp kd sd H k lns xs kvs skvs H2 :=
  ⟨h.dr.sm9 s, s _ _ h.gl, s _ _ h.gk, s _ _ h.gs, h.td.mv (Same.tk s), h.kn.mv (Same.tk s), h.sz⟩
structure L9 (lns : List Ln) (i : Nat) : Prop where
  ok : LnsOk [] lns
  len : lns.length = i
  at' : ∀ j l, lns[j]? = some l → NmAt j l.nm
  nice : ∀ l ∈ lns, LnNice l
theorem L9.names {lns : List Ln} {i : Nat} (h : L9 lns i) : ∀ z ∈ (knOf [] lns).map (·.1), Nice z := by
  intro z hz
  rw [knOf_names] at hz
  obtain ⟨l, hl, rfl⟩ := List.mem_map.mp (show z ∈ lns.map (·.nm) from hz)
  exact (h.nice l hl).nm
theorem L9.snoc {lns : List Ln} {i : Nat} (h : L9 lns i) {z : Str} {f : Frm} (hz : NmAt i z) (hf : FrmOk (knOf [] lns) f) : L9 (lns ++ [⟨z, f⟩]) (i + 1) := by
  refine ⟨h.ok.snoc ⟨fun hm => ?_, hz.nm, hf⟩, by rw [List.length_append, h.len]; rfl, fun j l hl => ?_, fun l hl => ?_⟩
  · rw [knOf_names] at hm
    obtain ⟨l, hl, e⟩ := List.mem_map.mp (show z ∈ lns.map (·.nm) from hm)
    obtain ⟨j, hj⟩ := List.mem_iff_getElem?.mp hl
    have h1 := (h.at' j l hj).key
    rw [e, hz.key] at h1
    have := (List.getElem?_eq_some_iff.mp hj).1
    rw [h.len] at this
    omega
  · by_cases e : j < lns.length
    · rw [List.getElem?_append_left e] at hl
      exact h.at' j l hl
    · rw [List.getElem?_append_right (by omega)] at hl
      have e2 : j - lns.length = 0 := by
        have := (List.getElem?_eq_some_iff.mp hl).1
        simp at this
        omega
      rw [e2] at hl
      have : j = i := by
        have := h.len
        omega
      rw [this]
      cases Option.some.inj hl
      exact hz
  · rcases List.mem_append.mp hl with hl | hl
    · exact h.nice l hl
    · rw [List.mem_singleton.mp hl]
      exact ⟨nice_at hz, hf.nice h.names⟩
theorem LnsOk.last {lns : List Ln} {l : Ln} (h : LnsOk [] (lns ++ [l])) : l.nm ∉ (knOf [] lns).map (·.1) := by
  have := (h.at (i := lns.length) (l := l) (by rw [List.getElem?_append_right (Nat.le_refl _), Nat.sub_self]; rfl)).new
  rwa [List.take_left] at this
theorem frmS_ok {kn : Kn} {ks : List Str} (hk : ∀ z ∈ ks, IsNm z) : ∀ {f : Frm}, FrmS ks f → FrmOk kn f
  | .one gs, h => h
  | .road k g h', ⟨h1, h2, h3⟩ => ⟨hk k h1, h2, h3⟩
theorem fresh_of {H H' : Hp} {a : Addr} (s : Same H H') (n : H' a = none) : H a = none := by
  cases e : H a with
  | none => rfl
  | some o =>
    rw [s _ _ e] at n
    cases n
def allForms : List Str := ["simple", "*", "close", "turn", "add"]
section
variable {P : Program} {w : World} {K : PySem.W.Frag} {mg : Str → Option Value} {base : Heap}
def spDrawn9 (K : PySem.W.Frag) : Sp := fun vs H Q _ => ∃ (p bd kt : Addr) (bkvs : List (Key × V)) (ks : List Str) (w m k : Nat) (plain : Bool), vs = [.ref p, .ref bd, .int (w : Int), .int (m : Int), .bl plain] ∧ w ≤ 4 ∧ 1 ≤ m ∧ m ≤ 20 ∧
  H bd = some (.dK bkvs) ∧ valV bkvs (.inr "by") = some (.int 0) ∧ valV bkvs (.inr "kinds") = some (.ref kt) ∧ SqT K H kt (ks.map V.str) ∧ 1 ≤ ks.length ∧ ks.length ≤ 3 ∧ (∀ z ∈ ks, IsNm z) ∧ Pot (k + 100 * m) H p ∧
  ∀ (lp : Addr) (xs : List V) (lns : List Ln) (H' : Hp), Dr p k H H' → H lp = none → lp ≠ p → H' lp = some (.lst xs) → TdAll K H' xs (lns.map Ln.data) → L9 lns m → Q (.ref lp) H'
theorem ok_l_script_drawn (T : Txt K mg) : FnOk P w K mg base CX0 5 T.f_l_script_drawn T.fd_l_script_drawn ["pot", "book", "width", "budget", "is_plain"] (spDrawn9 K) := by
  refine T.F_l_script_drawn.ok sc_l_script_drawn (fun vs H Q E h => ?_) (fun cdv A outer s H vs Q E hr h => ?_)
  · obtain ⟨p, bd, kt, bkvs, ks, w, m, k, plain, rfl, _⟩ := h
    rfl
  · obtain ⟨p, bd, kt, bkvs, ks, w, m, k, plain, rfl, hw, m1, m20, gB, vB, vK, hK, k1, k3, hks, hP, q⟩ := h
    refine ⟨_, (pss_cons (ps_par3 (i := 5) (j := 6) (l := 7) (by rfl) sc_l_script_drawn.nd rfl rfl rfl (by decide) (by decide) (by decide) rfl rfl rfl (pa_cons (pe_lst pa_nil) (pa_cons pe_dnewK (pa_cons pe_dnewK pa_nil))) (by rfl))
  (pss_cons (ps_for PassesOwn.never rfl (pi_range1 (by rfl) T.n_range (pa_cons (pv 3) pa_nil)) (pg_name (i := 8) sc_l_script_drawn.nd rfl (Or.inl rfl)) (C8.pss_cut (ps_set (i := 9) sc_l_script_drawn.nd rfl (Or.inl rfl) (pe_op op_cat (pe_lst (pa_cons pe_str (pa_cons pe_str (pa_cons pe_str (pa_cons pe_str (pa_cons pe_str (pa_cons pe_str (pa_cons pe_str (pa_cons pe_str pa_nil))))))))) (pe_ifExp (pt_val (pv 4)) (pe_lst pa_nil) (pe_lst (pa_cons pe_str (pa_cons pe_str pa_nil))))))
  (pss_cons (ps_par (i := 10) (j := 11) (by rfl) sc_l_script_drawn.nd rfl rfl (by decide) rfl rfl (pa_cons (pe_call (ok_l_of T) (hr.mono (by decide)) (by rfl) T.g_l_of T.F_l_of.kp T.b_l_of .nil pass0 (pa_cons (pv 0) (pa_cons (pv 9) pa_nil))) (pa_cons pe_non pa_nil)) (by rfl))
  (C8.pss_cut (ps_if (PW.pt (pw_and (pt_cmpR (op_neD hr.units) (pv 5) (pe_lst pa_nil) (nomark _)) (pw_and1 (pt_cmpR op_ne (pv 10) pe_str (nomark _))))) (pss_one (ps_set (i := 11) sc_l_script_drawn.nd rfl (Or.inl rfl) (pe_call (ok_l_script_try T) (hr.mono (by decide)) (by rfl) T.g_l_script_try T.F_l_script_try.kp T.b_l_script_try .nil pass0 (pa_cons (pv 0) (pa_cons (pe_dget (hu_of hr) (pv 1) pe_str (fun _ _ => rfl)) (pa_cons (pv 2) (pa_cons (pv 6) (pa_cons (pv 10) pa_nil)))))))) pss_nil)
  (C8.pss_cut (ps_if (PW.pt (pw_or (pt_cmpR op_isN (pv 11) pe_non (nomark _)) (pw_or1 (pt_cmpR op_gt (pe_call (ok_l_script_size T) (hr.mono (by decide)) (by rfl) T.g_l_script_size T.F_l_script_size.kp T.b_l_script_size .nil pass0 (pa_cons (pv 7) (pa_cons (pe_ix ix_tup (pv 11) pe_int (fun _ _ => rfl)) (pa_cons (pe_ix ix_tup (pv 11) pe_int (fun _ _ => rfl)) pa_nil)))) pe_int (nomark _))))) (pss_one (ps_set (i := 11) sc_l_script_drawn.nd rfl (Or.inl rfl) (pe_call (ok_l_script_simple T) (hr.mono (by decide)) (by rfl) T.g_l_script_simple T.F_l_script_simple.kp T.b_l_script_simple .nil pass0 (pa_cons (pv 0) (pa_cons (pe_dget (hu_of hr) (pv 1) pe_str (fun _ _ => rfl)) (pa_cons (pv 2) pa_nil)))))) pss_nil)
  (pss_cons (ps_set (i := 12) sc_l_script_drawn.nd rfl (Or.inl rfl) (pe_call (ok_l_script_name T) (hr.mono (by decide)) (by rfl) T.g_l_script_name T.F_l_script_name.kp T.b_l_script_name .nil pass0 (pa_cons (pv 0) (pa_cons (pv 8) pa_nil))))
  (pss_cons (ps_expr (pe_bm PySem.F.plainAttrs_list PySem.F.slot_list_append PySem.F.type_list_append mt_append (pv 5) (pa_cons (pe_tup (pa_cons (pv 12) (pa_cons (pe_ix ix_tup (pv 11) pe_int (fun _ _ => rfl)) (pa_cons (pe_ix ix_tup (pv 11) pe_int (fun _ _ => rfl)) pa_nil)))) pa_nil)))
  (pss_cons (ps_dput (hu_of hr) (pv 7) (pv 12) (pe_call (ok_l_script_size T) (hr.mono (by decide)) (by rfl) T.g_l_script_size T.F_l_script_size.kp T.b_l_script_size .nil pass0 (pa_cons (pv 7) (pa_cons (pe_ix ix_tup (pv 11) pe_int (fun _ _ => rfl)) (pa_cons (pe_ix ix_tup (pv 11) pe_int (fun _ _ => rfl)) pa_nil)))) rfl)
  (pss_one (ps_dput (hu_of hr) (pv 6) (pv 12) (pe_call (ok_l_script_line_gates T) (hr.mono (by decide)) (by rfl) T.g_l_script_line_gates T.F_l_script_line_gates.kp T.b_l_script_line_gates .nil pass0 (pa_cons (pv 6) (pa_cons (pe_ix ix_tup (pv 11) pe_int (fun _ _ => rfl)) (pa_cons (pe_ix ix_tup (pv 11) pe_int (fun _ _ => rfl)) pa_nil)))) rfl))))))))))
  (pss_one (ps_ret (pv 5))))), ?_⟩
    have wide : ∀ {n : Nat}, n ≤ 1000 → n ≤ sizeLine := fun h => Nat.le_trans h (by decide)
    have nB := hP.neD gB
    refine ⟨wide (show 0 ≤ 1000 by decide), fun lp hlp kd hkd sd hsd => ?_⟩
    have nkp := (hP.same (same_new (o := .lst []) hlp)).ne hkd
    have s3 : Same H (upd (upd (upd H lp (.lst [])) kd (.dK [])) sd (.dK [])) := ((same_new hlp).trans (same_new hkd)).trans (same_new hsd)
    have g3 : (upd (upd (upd H lp (.lst [])) kd (.dK [])) sd (.dK [])) sd = some (.dK []) := upd_same
    have g2 : (upd (upd (upd H lp (.lst [])) kd (.dK [])) sd (.dK [])) kd = some (.dK []) := same_new hsd _ _ upd_same
    have g1 : (upd (upd (upd H lp (.lst [])) kd (.dK [])) sd (.dK [])) lp = some (.lst []) := same_new hsd _ _ (same_new hkd _ _ upd_same)
    have N : N9 p lp kd sd H := ⟨hP.ne hlp, nkp, (hP.same ((same_new hlp).trans (same_new hkd))).ne hsd, hlp, fresh_of (same_new hlp) hkd, fresh_of ((same_new hlp).trans (same_new hkd)) hsd, fun e => by
      rw [← e] at hsd
      rw [upd_same] at hsd
      cases hsd⟩
    generalize upd (upd (upd H lp (.lst [])) kd (.dK [])) sd (.dK []) = H0 at *
    refine ⟨_, _, _, rfl, .int (m : Int), rfl, (m : Int), rfl, (by omega), (by omega), ?_⟩
    obtain ⟨k0, hk0⟩ : ∃ k0, k0 = k + 100 * m := ⟨_, rfl⟩
    rw [← hk0] at hP
    refine for_range (lo := 0) (n := m) (fun i σ H' => ∃ (u8 u9 u10 u11 u12 : Option V) (lns : List Ln) (xs : List V) (kvs skvs : List (Key × V)), σ = [some (.ref p), some (.ref bd), some (.int (w : Int)), some (.int (m : Int)), some (.bl plain), some (.ref lp), some (.ref kd), some (.ref sd), u8, u9, u10, u11, u12] ∧ i ≤ m ∧ L9 lns i ∧
        I9 K p lp kd sd H (k0 - 100 * i) lns xs kvs skvs H' ∧ skvs.length ≤ i)
      ⟨_, _, _, _, _, [], [], [], [], rfl, Nat.zero_le _, ⟨trivial, rfl, fun j l h => by simp at h, fun l h => by cases h⟩, ⟨⟨Same.kp s3, (hP.same s3).mono (by omega)⟩, g1, g2, g3, .nil, .nil, SzOk.nil _⟩, Nat.zero_le _⟩ ?_ ?_
    · rintro i σ H1 hi ⟨u8, u9, u10, u11, u12, lns, xs, kvs, skvs, rfl, _, L, I, hsk⟩
      obtain ⟨c, hc⟩ : ∃ c, c = k0 - 100 * i := ⟨_, rfl⟩
      have hc100 : c ≥ 100 := by omega
      rw [← hc] at I
      refine ⟨fun σ H2 => ∃ (ml : Addr) (ms : List Str) (u10 u11 u12 : Option V), σ = [some (.ref p), some (.ref bd), some (.int (w : Int)), some (.int (m : Int)), some (.bl plain), some (.ref lp), some (.ref kd), some (.ref sd), some (.int (0 + (i : Int))), some (.ref ml), u10, u11, u12] ∧ I9 K p lp kd sd H c lns xs kvs skvs H2 ∧
        H2 ml = some (.lst (ms.map V.str)) ∧ (∀ z ∈ ms, z ∈ allForms) ∧ 1 ≤ ms.length ∧ ms.length ≤ 10 ∧ ml ≠ p, ?_, ?_⟩
      · refine ⟨wide (show 8 ≤ 1000 by decide), fun a ha => ?_⟩
        have sa := same_new (o := .lst ((["simple", "*", "*", "close", "close", "turn", "*", "simple"] : List Str).map V.str)) ha
        have ga : (upd H1 a (.lst ((["simple", "*", "*", "close", "close", "turn", "*", "simple"] : List Str).map V.str))) a = some (.lst ((["simple", "*", "*", "close", "close", "turn", "*", "simple"] : List Str).map V.str)) := upd_same
        have ea : upd H1 a (.lst [.str "simple", .str "*", .str "*", .str "close", .str "close", .str "turn", .str "*", .str "simple"]) = upd H1 a (.lst ((["simple", "*", "*", "close", "close", "turn", "*", "simple"] : List Str).map V.str)) := rfl
        rw [ea]
        have I1 := I.sm sa
        generalize upd H1 a (.lst ((["simple", "*", "*", "close", "close", "turn", "*", "simple"] : List Str).map V.str)) = H2 at *
        refine ⟨_, rfl, _, rfl, ?_⟩
        cases plain with
        | true =>
          refine iteT ?_
          refine ⟨wide (show 0 ≤ 1000 by decide), fun b hb => ⟨a, b, _, _, rfl, rfl, same_new hb _ _ ga, upd_same, wide (show 8 ≤ 1000 by decide), fun q1 hq1 => ?_⟩⟩
          have I2 := I1.sm ((same_new (o := .lst []) hb).trans (same_new (o := .lst ((["simple", "*", "*", "close", "close", "turn", "*", "simple"] : List Str).map V.str)) hq1))
          exact ⟨q1, ["simple", "*", "*", "close", "close", "turn", "*", "simple"], _, _, _, rfl, I2, upd_same, by decide, by decide, by decide, (I1.sm (same_new (o := .lst []) hb)).dr.2.ne hq1⟩
        | false =>
          refine iteF ?_
          refine ⟨wide (show 2 ≤ 1000 by decide), fun b hb => ⟨a, b, _, _, rfl, rfl, same_new hb _ _ ga, upd_same, wide (show 10 ≤ 1000 by decide), fun q1 hq1 => ?_⟩⟩
          have I2 := I1.sm ((same_new (o := .lst [.str "add", .str "add"]) hb).trans (same_new (o := .lst ((["simple", "*", "*", "close", "close", "turn", "*", "simple", "add", "add"] : List Str).map V.str)) hq1))
          exact ⟨q1, ["simple", "*", "*", "close", "close", "turn", "*", "simple", "add", "add"], _, _, _, rfl, I2, upd_same, by decide, by decide, by decide, (I1.sm (same_new (o := .lst [.str "add", .str "add"]) hb)).dr.2.ne hq1⟩
      rintro σ H2 ⟨ml, ms, u10, u11, u12, rfl, I, gm, hms, m1', m10, nml⟩
      refine ⟨_, rfl, _, rfl, p, ml, _, c - 1, rfl, I.dr.2.mono (by omega), SqL.of gm, nml, ?_, ?_, fun j x H3 hx d3 => ?_⟩
      · rw [List.length_map]
        omega
      · rw [List.length_map]
        omega
      obtain ⟨form, hform, rfl⟩ := str_at hx
      have hform := hms _ (List.mem_of_getElem? hform)
      have I3 := I.mv N d3
      refine ⟨_, _, rfl, ?_⟩
      refine ⟨fun σ H2 => ∃ (v11 : V), σ = [some (.ref p), some (.ref bd), some (.int (w : Int)), some (.int (m : Int)), some (.bl plain), some (.ref lp), some (.ref kd), some (.ref sd), some (.int (0 + (i : Int))), some (.ref ml), some (.str form), some v11, u12] ∧ I9 K p lp kd sd H (c - 41) lns xs kvs skvs H2 ∧
        (v11 = .non ∨ ∃ (a : Addr) (f : Frm), v11 = .ref a ∧ FrmOk (knOf [] lns) f ∧ Td K H2 (.ref a) f.data), ?_, ?_⟩
      · refine ⟨_, rfl, wide (show 0 ≤ 1000 by decide), fun e0 he0 => ?_⟩
        have I4 := I3.sm (same_new (o := .lst []) he0)
        refine ⟨.list (lns.map Ln.data), .list [], .lst (SqL.of I4.gl) I4.td.dp, .lst (SqL.of upd_same) .nil, (lns_shaped L.nice).1, shaped_nil, _, rfl, ?_⟩
        rw [lns_eqnil]
        generalize upd H3 e0 (.lst []) = H4 at *
        by_cases el : lns = []
        · rw [decide_eq_true el]
          refine iteF ?_
          refine iteF ?_
          exact ⟨.non, rfl, I4.mv N (Dr.start I4.dr.2 (by omega)), .inl rfl⟩
        rw [decide_eq_false el]
        refine iteT ?_
        refine ⟨_, rfl, rfl, _, rfl, ?_⟩
        by_cases ef : form = "simple"
        · rw [decide_eq_true (congrArg V.str ef)]
          refine iteF ?_
          exact ⟨.non, rfl, I4.mv N (Dr.start I4.dr.2 (by omega)), .inl rfl⟩
        rw [decide_eq_false fun z => ef (V.str.inj z)]
        refine iteT ?_
        have hf' : form ∈ tryForms := by
          unfold allForms at hform
          unfold tryForms
          simp only [List.mem_cons, List.mem_nil_iff, or_false] at hform ⊢
          rcases hform with h | h | h | h | h
          · exact absurd h ef
          · exact .inl h
          · exact .inr (.inr (.inl h))
          · exact .inr (.inr (.inr h))
          · exact .inr (.inl h)
        refine ⟨_, rfl, _, rfl, bd, .int 0, rfl, .inl ⟨bkvs, .inr "by", .inl (I4.dr.st nB gB), rfl, vB.symm⟩, _, rfl, _, rfl, _, rfl, p, kd, knOf [] lns, kvs, w, c - 41, form, rfl, hf', I4.gk, I4.kn, KnOk.of KnOk.nil L.ok, ?_, ?_, I4.dr.2.mono (by omega), fun H5 d5 => ?_, fun a f H5 d5 _ hf ht => ?_⟩
        · rw [knOf_len]
          have := List.length_pos_iff.mpr el
          omega
        · rw [knOf_len, L.len]
          show 0 + i ≤ 100
          omega
        · exact ⟨.non, rfl, I4.mv N d5, .inl rfl⟩
        · exact ⟨.ref a, rfl, I4.mv N d5, .inr ⟨a, f, rfl, hf, ht⟩⟩
      rintro σ H5 ⟨v11, rfl, I5, hv⟩
      refine ⟨fun σ H2 => ∃ (a : Addr) (f : Frm), σ = [some (.ref p), some (.ref bd), some (.int (w : Int)), some (.int (m : Int)), some (.bl plain), some (.ref lp), some (.ref kd), some (.ref sd), some (.int (0 + (i : Int))), some (.ref ml), some (.str form), some (.ref a), u12] ∧ I9 K p lp kd sd H (c - 61) lns xs kvs skvs H2 ∧
        FrmOk (knOf [] lns) f ∧ Td K H2 (.ref a) f.data, ?_, ?_⟩
      · refine ⟨_, rfl, rfl, _, rfl, ?_⟩
        rcases hv with rfl | ⟨a, f, rfl, hf, ht⟩
        · rw [decide_eq_true rfl]
          refine iteT ?_
          refine iteT ?_
          refine ⟨_, rfl, _, rfl, bd, .ref kt, rfl, .inl ⟨bkvs, .inr "kinds", .inl (I5.dr.st nB gB), rfl, vK.symm⟩, _, rfl, p, kt, w, c - 61, ks, rfl, hw, SqT.tk hK (I5.dr.tk hP), k1, k3, I5.dr.2.mono (by omega), fun a f H6 d6 _ hf ht => ?_⟩
          exact ⟨a, f, rfl, I5.mv N d6, frmS_ok hks hf, ht⟩
        · rw [decide_eq_false fun z => by cases z]
          refine iteF ?_
          obtain ⟨_, ys, e, hT, hA⟩ := ht.tupI
          cases e
          obtain ⟨x, r, rfl, e1, hA⟩ := hA.consI
          obtain ⟨y, r, rfl, e2, hA⟩ := hA.consI
          cases hA.nilI
          cases e1.strI
          obtain ⟨pt, ps, rfl, _, _⟩ := e2.tupI
          refine ⟨_, rfl, _, rfl, a, _, 0, .str f.word, rfl, rfl, hT, rfl, _, rfl, a, _, 1, .ref pt, rfl, rfl, hT, rfl, sd, pt, knOf [] lns, skvs, f, rfl, I5.gs, I5.sz, hf, e2, fun n H6 s6 => ?_⟩
          refine ⟨_, _, rfl, rfl, _, rfl, ?_⟩
          have I5 := I5.sm s6
          refine ite2 (fun _ => ?_) (fun _ => ?_)
          · refine ⟨_, rfl, _, rfl, bd, .ref kt, rfl, .inl ⟨bkvs, .inr "kinds", .inl (I5.dr.st nB gB), rfl, vK.symm⟩, _, rfl, p, kt, w, c - 61, ks, rfl, hw, SqT.tk hK (I5.dr.tk hP), k1, k3, I5.dr.2.mono (by omega), fun a f H6 d6 _ hf ht => ?_⟩
            exact ⟨a, f, rfl, I5.mv N d6, frmS_ok hks hf, ht⟩
          · exact ⟨a, f, rfl, I5.mv N (Dr.start I5.dr.2 (by omega)), hf, ht.mv (Same.tk s6)⟩
      rintro σ H6 ⟨a, f, rfl, I6, hf, ht⟩
      refine ⟨_, rfl, _, rfl, p, i, c - 63, (by rw [Int.zero_add]; rfl), by omega, I6.dr.2.mono (by omega), fun z H7 d7 hz => ?_⟩
      have I7 := I6.mv N d7
      have ht7 := ht.mv (d7.tk I6.dr.2)
      obtain ⟨_, ys, e, hT, hA⟩ := ht7.tupI
      cases e
      obtain ⟨x, r, rfl, e1, hA⟩ := hA.consI
      obtain ⟨y, r, rfl, e2, hA⟩ := hA.consI
      cases hA.nilI
      cases e1.strI
      obtain ⟨pt, ps, rfl, _, _⟩ := e2.tupI
      refine ⟨_, rfl, .inl ⟨rfl, _, SqL.of I7.gl⟩, ?_⟩
      refine ⟨_, rfl, _, rfl, a, _, 0, .str f.word, rfl, rfl, hT, rfl, _, rfl, a, _, 1, .ref pt, rfl, rfl, hT, rfl, wide (show 3 ≤ 1000 by decide), fun tt htt => ?_⟩
      have st := same_new (o := .tup [.str z, .str f.word, .ref pt]) htt
      have I8 := I7.sm st
      have g8 : (upd H7 tt (.tup [.str z, .str f.word, .ref pt])) tt = some (.tup [.str z, .str f.word, .ref pt]) := upd_same
      have e28 := e2.mv (Same.tk st)
      have hT8 := SqT.tk hT (Same.tk st)
      generalize upd H7 tt (.tup [.str z, .str f.word, .ref pt]) = H8 at *
      have xl : xs.length ≤ 20 := by
        have := I8.td.lnLen
        rw [L.len] at this
        omega
      refine ⟨lp, xs, .ref tt, rfl, rfl, I8.gl, Nat.lt_of_le_of_lt xl (by decide), ?_⟩
      have tk9 := tk_lst (o := .lst (xs ++ [.ref tt])) I8.gl
      have d9 := I8.dr.mut (o := .lst (xs ++ [.ref tt])) N.fl N.nl
      have l9 : (upd H8 lp (.lst (xs ++ [.ref tt]))) lp = some (.lst (xs ++ [.ref tt])) := upd_same
      have k9 : (upd H8 lp (.lst (xs ++ [.ref tt]))) kd = some (.dK kvs) := by
        rw [upd_ne (fun e => by
          have := I8.gk
          rw [e, I8.gl] at this
          cases this)]
        exact I8.gk
      have s9 : (upd H8 lp (.lst (xs ++ [.ref tt]))) sd = some (.dK skvs) := by
        rw [upd_ne (fun e => by
          have := I8.gs
          rw [e, I8.gl] at this
          cases this)]
        exact I8.gs
      generalize upd H8 lp (.lst (xs ++ [.ref tt])) = H9 at *
      have e29 := e28.mv tk9
      have hT9 := SqT.tk hT8 tk9
      refine ⟨_, rfl, _, rfl, a, _, 0, .str f.word, rfl, rfl, hT9, rfl, _, rfl, a, _, 1, .ref pt, rfl, rfl, hT9, rfl, sd, pt, knOf [] lns, skvs, f, rfl, s9, I8.sz, hf, e29, fun n H10 s10 => ?_⟩
      refine ⟨_, rfl, _, rfl, sd, _, rfl, .inl ⟨skvs, .inr z, s10 _ _ s9, rfl, Nat.lt_of_le_of_lt (Nat.le_trans hsk (show i ≤ 20 by omega)) (by decide), rfl⟩, ?_⟩
      have tk11 := tk_dK (o := .dK (putK skvs (.inr z) (.int n))) (s10 _ _ s9)
      have d11 := (d9.sm9 s10).mut (o := .dK (putK skvs (.inr z) (.int n))) N.fs N.ns
      have l11 : (upd H10 sd (.dK (putK skvs (.inr z) (.int n)))) lp = some (.lst (xs ++ [.ref tt])) := by
        rw [upd_ne (fun e => by
          have := s10 _ _ s9
          rw [← e, s10 _ _ l9] at this
          cases this)]
        exact s10 _ _ l9
      have k11 : (upd H10 sd (.dK (putK skvs (.inr z) (.int n)))) kd = some (.dK kvs) := by
        rw [upd_ne N.ks]
        exact s10 _ _ k9
      have s11 : (upd H10 sd (.dK (putK skvs (.inr z) (.int n)))) sd = some (.dK (putK skvs (.inr z) (.int n))) := upd_same
      generalize upd H10 sd (.dK (putK skvs (.inr z) (.int n))) = H11 at *
      have tk811 := (tk9.trans (Same.tk s10)).trans tk11
      have e211 := e28.mv tk811
      have hT11 := SqT.tk hT8 tk811
      refine ⟨_, rfl, _, rfl, a, _, 0, .str f.word, rfl, rfl, hT11, rfl, _, rfl, a, _, 1, .ref pt, rfl, rfl, hT11, rfl, kd, pt, knOf [] lns, kvs, f, rfl, k11, I8.kn.mv tk811, KnOk.of KnOk.nil L.ok, hf.w, e211, fun v H12 s12 gv => ?_⟩
      have kl : kvs.length ≤ 20 := by
        rw [I8.kn.len, knOf_len, L.len]
        show 0 + i ≤ 20
        omega
      refine ⟨_, rfl, _, rfl, kd, _, rfl, .inl ⟨kvs, .inr z, s12 _ _ k11, rfl, Nat.lt_of_le_of_lt kl (by decide), rfl⟩, ?_⟩
      have tk13 := tk_dK (o := .dK (putK kvs (.inr z) v)) (s12 _ _ k11)
      have d13 := (d11.sm9 s12).mut (o := .dK (putK kvs (.inr z) v)) N.fk N.nk
      have tk813 := (tk811.trans (Same.tk s12)).trans tk13
      have L' := L.snoc hz hf
      have nz : valV kvs (.inr z) = none := I8.kn.no (glk_none.mpr L'.ok.last)
      refine ⟨_, _, _, _, _, lns ++ [⟨z, f⟩], xs ++ [.ref tt], _, putK skvs (.inr z) (.int n), rfl, hi, L', ⟨d13.mono (by omega), ?_, upd_same, ?_, ?_, ?_, ?_⟩, ?_⟩
      · rw [upd_ne (fun e => by
          have := s12 _ _ k11
          rw [← e, s12 _ _ l11] at this
          cases this)]
        exact s12 _ _ l11
      · rw [upd_ne (fun e => N.ks e.symm)]
        exact s12 _ _ s11
      · rw [List.map_append]
        exact TdAll.snoc (.tup (SqT.tk (SqT.of g8) tk813) (.cons (.str _) (.cons (.str _) (.cons (e28.mv tk813) .nil)))) (I8.td.mv tk813)
      · rw [putK_new _ nz] at tk13 ⊢
        rw [knOf_snoc]
        exact KnD.snoc (gv.mv tk13) ((I8.kn.mv tk811).mv ((Same.tk s12).trans tk13))
      · rw [knOf_snoc]
        exact I8.sz.snoc
      · unfold putK
        split
        · rw [List.length_map]
          omega
        · rw [List.length_append]
          exact Nat.add_le_add_right hsk 1
    · rintro σ H1 ⟨u8, u9, u10, u11, u12, lns, xs, kvs, skvs, rfl, _, L, I, _⟩
      exact ⟨_, rfl, q lp xs lns H1 (I.dr.mono (by omega)) hlp N.nl I.gl I.td L⟩
end
end OG
set_option Elab.async false
set_option linter.all false
set_option maxRecDepth 100000
set_option maxHeartbeats 4000000
namespace OGX
open PySem PySem.Spec PyProof.Rows L2
/-! set(x) of ints, x a tuple or a list; then sorted -/
abbrev eset (w : World) : Obj := { cls := .type "set", dict := none, data := .set #[] 0 (.fresh 0 0 (!w.params.followText "set-order")) }
section
variable {P : Program} {w : World} {A : Around} {E : Value → Shared → Prop} {s : Shared}
set_option maxHeartbeats 6400000 in
theorem set_of_list {la : Addr} {xs : Array Value} (ks : List Int) {Q : Value → Shared → Prop} (quiet : A.handled = none) (isL : s.heap.IsList la xs) (nums : IntsAre xs.toList ks) (few : ks.length + 1 < scanBound)
    (go : ∀ (hp : Heap) (tk c : Nat), SetR w hp s.heap.objs.size (fun j => decide (j ∈ ks)) c → c ≤ ks.length → (∀ b o, s.heap.get? b = some o → hp.get? b = some o) → Q (.ref s.heap.objs.size) { s with heap := hp, toks := tk }) :
    wpAny (model P w) A (call (.type "set") [.ref la]) Q E s := by
  have many : xs.size = ks.length := by
    rw [← IntsAre.length nums, Array.length_toList]
  obtain ⟨c, tl, hm0⟩ := F.called_set.mro
  have hm1 := F.called_set.made
  have hm2 := F.called_set.sub
  refine wpAny_call (codeAny_of_tree ?_); show wpAny _ _ (callAny (.type "set") _) _ _ _
  have qb := Code.quiet_builtin ⟨[.type "set", .ref la], []⟩ (by decide +kernel) (id := "type.__call__")
  refine wpAny_pure ⟨qb, codeAny_builtin F.entry_type_call ?_⟩
  rw [Around.under_plain (weight_type_call_type "set" [.ref la] []) rfl]
  have hq1 := F.called_set.notType
  have hq2 := F.called_set.canCreate
  have hq3 := F.typeCall_set_1 (.ref la)
  repeat any_goals first | assumption | wp_step
  refine codeAny_mono (code_set_led1 (.ref la) (E := E) (Q₁ := fun obj s₁ => obj = .ref s.heap.objs.size ∧ s₁ = { s with heap := s.heap.push (eset w) }) ⟨rfl, rfl⟩) fun r s₁ made => ?_
  cases r with
  | error e => exact made
  | ok fl =>
    cases fl with
    | ret obj =>
      obtain ⟨rfl, rfl⟩ := made
      have gS : (s.heap.push (eset w)).get? s.heap.objs.size = some (eset w) := Heap.get?_push_size _ rfl
      have tyS : Shared.TypeIs { s with heap := s.heap.push (eset w) } (.ref s.heap.objs.size) "set" := ⟨_, gS, rfl⟩
      have look := F.called_set.init.lookup
      have bind := F.called_set.init.bind (.ref s.heap.objs.size)
      repeat any_goals first | assumption | wp_step
      refine codeAny_mono (codeAny_call_builtin (R := wants (fun r s₂ => r = .none ∧ ∃ hp tk c, s₂ = { s with heap := hp, toks := tk } ∧ SetR w hp s.heap.objs.size (fun j => decide (j ∈ ks)) c ∧ c ≤ ks.length ∧
          (∀ b o, s.heap.get? b = some o → hp.get? b = some o)) E) F.called_set.init.plain F.entry_set_init (check_set_init_1 tyS ?_)) fun r₂ s₂ told => ?_
      · obtain ⟨oo, hoo, hcl, nl, hdl⟩ := isL
        obtain ⟨c0, odict, d0, oslots⟩ := oo
        simp only at hcl hdl
        subst hcl; subst hdl
        have at1 : (s.heap.push (eset w)).get? la = some { cls := .type "list", dict := odict, data := .seq xs nl, slots := oslots } := Heap.get?_push_of_some _ hoo
        have no1 := F.sub_list_set
        have no2 := F.sub_list_frozenset
        have no3 : (Value.type "list" == Value.type "dict") = false := by decide
        have is1 : (s.heap.push (eset w)).IsList la xs := ⟨_, at1, rfl, nl, rfl⟩
        unfold Builtin.«set.__init__» Builtin.Frozenset.updateFrom noKeywords
        generalize hIT : pyIter = IT
        wp_walk
        subst hIT
        refine wpAny_pyIter_list is1 ?_
        refine wpAny_bind (wpAny_runValue (?_))
        have below : la < s.heap.objs.size := Heap.lt_size hoo
        have quiet3 : A.in1.in1.in1.handled = none := by simp [quiet]
        have sz1 : (s.heap.push (eset w)).objs.size = s.heap.objs.size + 1 := Heap.size_push ..
        have apart : la ≠ (s.heap.push (eset w)).objs.size := by
          rw [sz1]
          exact Nat.ne_of_lt (Nat.lt_succ_of_lt below)
        have out1 : s.heap.objs.size ∉ [(s.heap.push (eset w)).objs.size, la] := by
          rw [sz1, List.mem_cons, List.mem_singleton, not_or]
          exact ⟨Nat.ne_of_lt (Nat.lt_succ_self _), Nat.ne_of_gt below⟩
        have each : ∀ (i : Nat) (v : Value), xs[i]? = some v → ∃ k t, ks[i]? = some k ∧ v = .int k t := fun i v hv => by
          have hi : i < ks.length := many ▸ (Array.getElem?_eq_some_iff.mp hv).1
          obtain ⟨t, e⟩ := PyProof.Rows.IntsAre.int_at nums i v (by rw [Array.getElem?_toList]; exact hv)
          exact ⟨ks[i], t, List.getElem?_eq_getElem hi, by rw [e, List.getD_eq_getElem?_getD, List.getElem?_eq_getElem hi]; rfl⟩
        refine set_update_ints ((Walks.list quiet3 _ la apart xs).toS) s.heap.objs.size out1 ks many few each (xs.size - 0) 0 _ (by omega) (Nat.zero_le _) ⟨⟨_, Heap.get?_push_size _ rfl, rfl, rfl⟩, (is1.push _)⟩ ?first ?last
        case first => exact ⟨0, Nat.le_refl 0, setR_new_at (Heap.get?_push_of_some _ gS)⟩
        case last =>
          intro s' c' mv few' R'
          obtain ⟨hp, g2, d', tk', os'⟩ := s'
          have eg : g2 = s.gens := mv.gens
          have ed : d' = s.drawn := mv.drawn
          have eo : os' = s.os := mv.os
          subst eg; subst ed; subst eo
          show wpAny _ _ _ _ _ _
          refine wpAny_pure ?_
          show wpAny _ _ (ret .none) _ _ _
          rw [many] at few'
          refine wpAny_pure ⟨rfl, hp, tk', c', rfl, R', few', fun b o e => ?_⟩
          have lt := Heap.lt_size e
          refine mv.heap b o ?_ (Heap.get?_push_of_some _ (Heap.get?_push_of_some _ e))
          rw [sz1, List.mem_cons, List.mem_singleton, not_or]
          exact ⟨Nat.ne_of_lt lt, Nat.ne_of_lt (Nat.lt_succ_of_lt lt)⟩
      · cases r₂ with
        | error e => exact told
        | ok fl₂ =>
          cases fl₂ with
          | ret r =>
            obtain ⟨rfl, hp, tk, c', rfl, R', few', keep⟩ := told
            repeat any_goals first | assumption | wp_step
            exact go _ _ _ R' few' keep
          | _ => exact told.elim
    | _ => exact made.elim
end
theorem setR_keys {w : World} {h : Heap} {a : Addr} {S : Int → Bool} {n : Nat} (R : SetR w h a S n) : ∃ ks : List Int, ks.Nodup ∧ ks.length = n ∧ ∀ k, k ∈ ks ↔ S k = true := by
  obtain ⟨o, es, ep, t, _, _, _, _, nd, hS, _, _, hn, _⟩ := R
  exact ⟨es.toList.map keyOf, nd, by rw [List.length_map, Array.length_toList, hn], fun k => (hS k).symm⟩
/-- set(x), x a tuple or a list of ints -/
def rSetI (K : PySem.W.Frag) (w : World) : List V → Hp → VK → Prop := fun vs H Q => ∃ (p : Addr) (ns : List Int), vs = [.ref p] ∧ (SqL K H p (ns.map V.int) ∨ SqT K H p (ns.map V.int)) ∧ ns.length ≤ 4000 ∧
  ∀ (a : Addr) (c : Nat) (ks : List Int), ks.Nodup → ks.length = c → (∀ k, k ∈ ks ↔ k ∈ ns) → H a = none → Q (.ref a) (upd H a (SetO w a (fun j => decide (j ∈ ns)) c))
theorem cr_setI {X : Cx} (hc : X.calm = true) : CallR X (.type "set") (rSetI X.K X.w) := by
  intro pins s σ H vs us Q I r h
  obtain ⟨p, ns, rfl, hq, hl, q⟩ := h
  rw [Vals.ref1 r]
  have hb : ns.length + 1 < scanBound := by
    unfold scanBound
    omega
  have fin : ∀ (hp : Heap) (tk c : Nat), SetR X.w hp s.heap.objs.size (fun j => decide (j ∈ ns)) c → c ≤ ns.length → (∀ b o, s.heap.get? b = some o → hp.get? b = some o) → EP X pins σ Q (.ref s.heap.objs.size) { s with heap := hp, toks := tk } := fun hp tk c R hcn k => by
    obtain ⟨o, es, ep, t, ho, rest⟩ := id R
    exact ⟨.ref s.heap.objs.size, upd H s.heap.objs.size (SetO X.w s.heap.objs.size (fun j => decide (j ∈ ns)) c), I.laid (a := s.heap.objs.size) (t' := tk) k (Nat.le_refl _) (setO_new R), rfl, by
      obtain ⟨ks, k1, k2, k3⟩ := setR_keys R
      exact q _ c ks k1 k2 (fun k => (k3 k).trans decide_eq_true_iff) (I.hok.fresh (Nat.le_refl _))⟩
  rcases hq with hq | hq
  · obtain ⟨its, rv, lv, _⟩ := I.list hq
    exact set_of_list ns (I.ok.hd hc) lv.isList (ints_of_vals rv) hb fin
  · obtain ⟨its, rv, tv, _⟩ := I.tuple hq
    exact call_set_tupI ns (I.ok.hd hc) tv (ints_of_vals rv) hb fin
end OGX
set_option Elab.async false
set_option linter.all false
set_option maxRecDepth 100000
set_option maxHeartbeats 4000000
namespace OGX
open PySem PySem.Spec PyProof.Rows L2
/-! xs[c::2], xs a list -/
def stepA {α : Type} (l : List α) (c : Nat) : List α := (List.range ((l.length - c + 1) / 2)).filterMap fun k => l[c + 2 * k]?
theorem two_bounds (c n : Nat) : sliceBounds (some (c : Int)) none (some 2) n = (((min c n : Nat) : Int), (n : Int), 2) := by
  unfold sliceBounds
  simp only [Option.getD_some]
  rw [if_pos (show (2 : Int) > 0 by decide), if_neg (show ¬ (c : Int) < 0 by omega)]
  rw [show max (0 : Int) (min (c : Int) (n : Int)) = ((min c n : Nat) : Int) by omega]
  rfl
theorem two_range (c n : Nat) : sliceRange ((min c n : Nat) : Int) (n : Int) 2 = (List.range ((n - c + 1) / 2)).map fun k => c + 2 * k := by
  unfold sliceRange
  have e : (if (2 : Int) > 0 then if ((min c n : Nat) : Int) < n then ((n : Int) - ((min c n : Nat) : Int) + 2 - 1) / 2 else 0 else if ((min c n : Nat) : Int) > n then (((min c n : Nat) : Int) - n - 2 - 1) / (-2) else 0).toNat = (n - c + 1) / 2 := by
    rw [if_pos (by decide)]
    by_cases q : ((min c n : Nat) : Int) < n
    · rw [if_pos q]
      omega
    · rw [if_neg q]
      show 0 = _
      omega
  simp only [e]
  refine List.map_congr_left fun k hk => ?_
  have := List.mem_range.mp hk
  omega
theorem two_pick (its : Array Value) (c : Nat) : slicePick its (some (c : Int)) none (some 2) = (stepA its.toList c).toArray := by
  unfold slicePick
  rw [two_bounds c its.size]
  show ((sliceRange ((min c its.size : Nat) : Int) (its.size : Int) 2).filterMap (its[·]?)).toArray = _
  rw [two_range c its.size, List.filterMap_map]
  unfold stepA
  rw [Array.length_toList]
  rw [show ((fun x => its[x]?) ∘ fun k => c + 2 * k) = fun k => its.toList[c + 2 * k]? from funext fun k => by
    show its[c + 2 * k]? = _
    rw [Array.getElem?_toList]]
theorem two_pick0 (its : Array Value) : slicePick its none none (some 2) = (stepA its.toList 0).toArray := by
  rw [← two_pick]
  unfold slicePick
  rfl
theorem vals_some {xs : List V} {its : List Value} (r : Vals xs its) : ∀ i : Nat, (xs[i]? = none ∧ its[i]? = none) ∨ ∃ x v, xs[i]? = some x ∧ its[i]? = some v ∧ RelV x v := by
  induction r with
  | nil => exact fun i => .inl ⟨by simp, by simp⟩
  | cons h _ ih =>
    intro i
    cases i with
    | zero => exact .inr ⟨_, _, rfl, rfl, h⟩
    | succ i => exact ih i
theorem vals_pick {xs : List V} {its : List Value} (r : Vals xs its) (f : Nat → Nat) : ∀ ks : List Nat, Vals (ks.filterMap fun k => xs[f k]?) (ks.filterMap fun k => its[f k]?)
  | [] => .nil
  | k :: ks => by
    rcases vals_some r (f k) with ⟨h1, h2⟩ | ⟨x, v, h1, h2, h3⟩
    · rw [List.filterMap_cons, List.filterMap_cons, h1, h2]
      exact vals_pick r f ks
    · rw [List.filterMap_cons, List.filterMap_cons, h1, h2]
      exact .cons h3 (vals_pick r f ks)
theorem vals_step {xs : List V} {its : List Value} (r : Vals xs its) (c : Nat) : Vals (stepA xs c) (stepA its c) := by
  unfold stepA
  rw [r.length]
  exact vals_pick r _ _
theorem stepA_len {α : Type} (l : List α) (c : Nat) : (stepA l c).length ≤ l.length + 1 := by
  unfold stepA
  have := List.length_filterMap_le (fun k => l[c + 2 * k]?) (List.range ((l.length - c + 1) / 2))
  rw [List.length_range] at this
  omega
def tStepL (K : PySem.W.Frag) (c : Nat) (te : TE) : TE := fun σ H Q => te σ H fun x H1 => ∃ a xs, x = .ref a ∧ SqL K H1 a xs ∧ xs.length ≤ 10000 ∧ ∀ p, H1 p = none → Q (.ref p) (upd H1 p (.lst (stepA xs c)))
theorem pe_stepL {X : Cx} {e : Expr} {te : TE} {c k k2 : Nat} {p1 p2 p3 pos : Pos} (he : PE X e te) : PE X (.Subscript e (.Slice (some (.Constant (.int (c : Int)) k p1)) none (some (.Constant (.int 2) k2 p2)) p3) pos) (tStepL X.K c te) := by
  refine ⟨fun pins s σ H Q I h => ?_⟩
  refine Subscript_ (thn (he.run pins s σ H _ I h) fun v s1 told => ?_)
  obtain ⟨_, H1, I1, r1, a, xs, rfl, hx, hn, q⟩ := told
  cases r1
  have lo : PO X (some (.Constant (.int (c : Int)) k p1)) (tPart (tC (.int (c : Int)))) := po_some pe_int
  have by2 : PO X (some (.Constant (.int 2) k2 p2)) (tPart (tC (.int 2))) := po_some pe_int
  refine wpAny_Slice (thn (lo.run pins s1 σ H1 (fun o H2 => o = some (c : Int) ∧ H2 = H1) I1 ⟨c, rfl, rfl, rfl⟩) fun vl s2 h2 => ?_)
  obtain ⟨_, H2, I2, pl, rfl, e2⟩ := h2
  have e2 := e2.symm
  subst e2
  refine thn (po_none.run pins s2 σ _ (fun o H3 => o = none ∧ H3 = H1) I2 ⟨rfl, rfl⟩) fun vu s3 h3 => ?_
  obtain ⟨_, H3, I3, pu, rfl, e3⟩ := h3
  have e3 := e3.symm
  subst e3
  refine thn (by2.run pins s3 σ _ (fun o H4 => o = some 2 ∧ H4 = H1) I3 ⟨2, rfl, rfl, rfl⟩) fun vs s4 h4 => ?_
  obtain ⟨_, H4, I4, ps, rfl, e4⟩ := h4
  have e4 := e4.symm
  subst e4
  have I5 : Inv X pins σ H1 { s4 with heap := s4.heap.push { cls := .type "slice", data := .fields #[vl, vu, vs] } } := I4.kept (t' := s4.toks) fun b ob q => Heap.get?_push_of_some _ q
  obtain ⟨its, r, ht, hz⟩ := I5.list hx
  have hl := r.length
  change wpAny (model X.prog X.w) X.A (subscriptTail e (.Slice (some (.Constant (.int (c : Int)) k p1)) none (some (.Constant (.int 2) k2 p2)) p3) (.ref a) (.ref s4.heap.objs.size)) (EP X pins σ Q) X.xe { s4 with heap := s4.heap.push { cls := .type "slice", data := .fields #[vl, vu, vs] } }
  refine tail_any (ops := [.ref a, .ref s4.heap.objs.size]) ht.isList.typeIs PySem.slot_list_getitem.lookup ?_ (by with_unfolding_all rfl)
  refine wpAny_getItem_list_slice ht.isList (Heap.IsSliceOf.new _ vl vu vs) pl pu ps (by decide) ?_ (by rw [List.size_toArray]; omega)
  rw [two_pick its.toArray c]
  refine ⟨.ref _, _, I5.laid (t' := s4.toks) (o := .lst (stepA xs c)) (fun b ob q => Heap.get?_push_of_some _ q) (Nat.le_refl _) ?_, rfl, q _ (I5.hok.fresh (Nat.le_refl _))⟩
  exact ⟨Nat.le_trans (stepA_len xs c) (Nat.le_trans (show xs.length + 1 ≤ 10001 by omega) (by decide)), stepA its c, 0, vals_step r c, Heap.get?_push_size _ rfl⟩
theorem pe_stepL0 {X : Cx} {e : Expr} {te : TE} {k2 : Nat} {p2 p3 pos : Pos} (he : PE X e te) : PE X (.Subscript e (.Slice none none (some (.Constant (.int 2) k2 p2)) p3) pos) (tStepL X.K 0 te) := by
  refine ⟨fun pins s σ H Q I h => ?_⟩
  refine Subscript_ (thn (he.run pins s σ H _ I h) fun v s1 told => ?_)
  obtain ⟨_, H1, I1, r1, a, xs, rfl, hx, hn, q⟩ := told
  cases r1
  have by2 : PO X (some (.Constant (.int 2) k2 p2)) (tPart (tC (.int 2))) := po_some pe_int
  refine wpAny_Slice (thn (po_none.run pins s1 σ H1 (fun o H2 => o = none ∧ H2 = H1) I1 ⟨rfl, rfl⟩) fun vl s2 h2 => ?_)
  obtain ⟨_, H2, I2, pl, rfl, e2⟩ := h2
  have e2 := e2.symm
  subst e2
  refine thn (po_none.run pins s2 σ _ (fun o H3 => o = none ∧ H3 = H1) I2 ⟨rfl, rfl⟩) fun vu s3 h3 => ?_
  obtain ⟨_, H3, I3, pu, rfl, e3⟩ := h3
  have e3 := e3.symm
  subst e3
  refine thn (by2.run pins s3 σ _ (fun o H4 => o = some 2 ∧ H4 = H1) I3 ⟨2, rfl, rfl, rfl⟩) fun vs s4 h4 => ?_
  obtain ⟨_, H4, I4, ps, rfl, e4⟩ := h4
  have e4 := e4.symm
  subst e4
  have I5 : Inv X pins σ H1 { s4 with heap := s4.heap.push { cls := .type "slice", data := .fields #[vl, vu, vs] } } := I4.kept (t' := s4.toks) fun b ob q => Heap.get?_push_of_some _ q
  obtain ⟨its, r, ht, hz⟩ := I5.list hx
  have hl := r.length
  change wpAny (model X.prog X.w) X.A (subscriptTail e (.Slice none none (some (.Constant (.int 2) k2 p2)) p3) (.ref a) (.ref s4.heap.objs.size)) (EP X pins σ Q) X.xe { s4 with heap := s4.heap.push { cls := .type "slice", data := .fields #[vl, vu, vs] } }
  refine tail_any (ops := [.ref a, .ref s4.heap.objs.size]) ht.isList.typeIs PySem.slot_list_getitem.lookup ?_ (by with_unfolding_all rfl)
  refine wpAny_getItem_list_slice ht.isList (Heap.IsSliceOf.new _ vl vu vs) pl pu ps (by decide) ?_ (by rw [List.size_toArray]; omega)
  rw [two_pick0 its.toArray]
  refine ⟨.ref _, _, I5.laid (t' := s4.toks) (o := .lst (stepA xs 0)) (fun b ob q => Heap.get?_push_of_some _ q) (Nat.le_refl _) ?_, rfl, q _ (I5.hok.fresh (Nat.le_refl _))⟩
  exact ⟨Nat.le_trans (stepA_len xs 0) (Nat.le_trans (show xs.length + 1 ≤ 10001 by omega) (by decide)), stepA its 0, 0, vals_step r 0, Heap.get?_push_size _ rfl⟩
end OGX
set_option Elab.async false
set_option linter.all false
set_option maxRecDepth 100000
set_option maxHeartbeats 8000000
namespace OG
open PySem PySem.Spec PyProof.Rows L2
/-! a text and its lines -/
theorem joinL_mem2 {S : List Nat} : ∀ {ls : List (List Nat)} {l : List Nat} {c : Nat}, l ∈ ls → c ∈ l → c ∈ TL.joinL S ls
  | [p], l, c, h, hc => by
    rw [List.mem_singleton.mp h] at hc
    exact hc
  | p :: q :: r, l, c, h, hc => by
    show c ∈ p ++ (S ++ TL.joinL S (q :: r))
    rcases List.mem_cons.mp h with rfl | h
    · exact List.mem_append_left _ hc
    · exact List.mem_append_right _ (List.mem_append_right _ (joinL_mem2 h hc))
theorem split_mem {z y p : Str} {c : Nat} (hp : p ∈ Txt.split z y) (hc : c ∈ tl p) : c ∈ tl z := by
  have j := PySem.StrLaws.join_split z y
  have jt := congrArg TL.tl j
  rw [TL.tl_join] at jt
  show c ∈ TL.tl z
  rw [← jt]
  exact joinL_mem2 (List.mem_map.mpr ⟨p, hp, rfl⟩) hc
/-- a text that can be read: not too long, its signs are signs -/
structure TxOk (n : Nat) (z : Str) : Prop where
  len : z.length ≤ n
  ok : PyData.strOk z = true
theorem strOk_tl {z : Str} : PyData.strOk z = true ↔ ∀ c ∈ tl z, c < 0x110000 := by
  unfold PyData.strOk
  rw [← Array.all_toList, List.all_eq_true]
  exact ⟨fun h c hc => of_decide_eq_true (h c hc), fun h c hc => decide_eq_true (h c hc)⟩
theorem TxOk.split {n : Nat} {z y : Str} (h : TxOk n z) (hy : y.length = 1) (h256 : y.cps.all (· < 256) = true) : Txt.split z y ≠ [] ∧ (Txt.split z y).length ≤ n + 1 ∧ ∀ p ∈ Txt.split z y, TxOk n p := by
  obtain ⟨h1, h2, h3⟩ := split_facts z y hy h256
  have := h.len
  exact ⟨h1, by omega, fun p hp => ⟨Nat.le_trans (h3 p hp) h.len, strOk_tl.mpr fun c hc => strOk_tl.mp h.ok c (split_mem hp hc)⟩⟩
/-! the reading -/
def allR {α β : Type} (f : α → Option β) : List α → Option (List β)
  | [] => some []
  | x :: r => match f x, allR f r with
    | some y, some ys => some (y :: ys)
    | _, _ => none
theorem allR_some {α β : Type} {f : α → Option β} : ∀ {xs : List α} {ys : List β}, allR f xs = some ys → ys.length = xs.length ∧ ∀ (i : Nat) (x : α), xs[i]? = some x → ∃ y, ys[i]? = some y ∧ f x = some y
  | [], ys, h => by
    cases h
    exact ⟨rfl, fun i x e => by simp at e⟩
  | x :: r, ys, h => by
    unfold allR at h
    cases e1 : f x with
    | none => rw [e1] at h; cases h
    | some y =>
      cases e2 : allR f r with
      | none => rw [e1, e2] at h; cases h
      | some zs =>
        rw [e1, e2] at h
        cases h
        obtain ⟨h1, h2⟩ := allR_some e2
        refine ⟨by rw [List.length_cons, List.length_cons, h1], fun i z hz => ?_⟩
        cases i with
        | zero =>
          cases hz
          exact ⟨y, rfl, e1⟩
        | succ i => exact h2 i z hz
theorem allR_none {α β : Type} {f : α → Option β} : ∀ {xs : List α}, allR f xs = none ↔ ∃ x ∈ xs, f x = none
  | [] => ⟨(fun h => nomatch h), (fun ⟨x, h, _⟩ => nomatch h)⟩
  | x :: r => by
    unfold allR
    cases e1 : f x with
    | none => exact ⟨fun _ => ⟨x, List.mem_cons_self, e1⟩, fun _ => rfl⟩
    | some y =>
      cases e2 : allR f r with
      | none =>
        obtain ⟨z, hz, e⟩ := allR_none.mp e2
        exact ⟨fun _ => ⟨z, List.mem_cons_of_mem _ hz, e⟩, fun _ => rfl⟩
      | some ys =>
        refine ⟨(fun h => nomatch h), fun ⟨z, hz, e⟩ => ?_⟩
        rcases List.mem_cons.mp hz with rfl | hz
        · rw [e1] at e
          cases e
        · rw [allR_none.mpr ⟨z, hz, e⟩] at e2
          cases e2
def gateW : List Str := ["1", "2", "3", "4"]
def gateR (z : Str) : Option Int := if z ∈ gateW then some (numV (tl z)) else none
theorem gateW_at {z : Str} (h : z ∈ gateW) : (1 ≤ numV (tl z) ∧ numV (tl z) ≤ 4) ∧ PySem.intText? z = some (numV (tl z)) ∧ z.length ≤ 1 ∧ z.cps.all (· < 128) = true := by
  unfold gateW at h
  simp only [List.mem_cons, List.mem_nil_iff, or_false] at h
  rcases h with rfl | rfl | rfl | rfl <;> decide +kernel
theorem gateR_rng {z : Str} {g : Int} (h : gateR z = some g) : 1 ≤ g ∧ g ≤ 4 := by
  unfold gateR at h
  split at h
  · rename_i m
    cases h
    exact (gateW_at m).1
  · cases h
/-- strictly ascending, of 1 to 4 -/
def gatesR (ws : List Str) : Option (List Int) := match allR gateR ws with
  | some gs => if gs = asc4 (fun x => decide (x ∈ gs)) then some gs else none
  | none => none
theorem gatesR_ok {ws : List Str} {gs : List Int} (h : gatesR ws = some gs) : GsOk gs := by
  unfold gatesR at h
  cases e : allR gateR ws with
  | none => rw [e] at h; cases h
  | some xs =>
    rw [e] at h
    have h : (if xs = asc4 (fun x => decide (x ∈ xs)) then some xs else none) = some gs := h
    split at h
    · rename_i c
      cases h
      rw [c]
      exact asc4_ok _
    · cases h
def facR (z : Str) : Option Fac :=
  if numQ 1000 (tl (Txt.partition z "/").1) = true then
    if (Txt.partition z "/").2.1 = "" then some (numV (tl (Txt.partition z "/").1), 1)
    else if numQ 1000 (tl (Txt.partition z "/").2.2) = true ∧ 2 ≤ numV (tl (Txt.partition z "/").2.2) ∧ Nat.gcd (numV (tl (Txt.partition z "/").1)).natAbs (numV (tl (Txt.partition z "/").2.2)).natAbs = 1 then some (numV (tl (Txt.partition z "/").1), numV (tl (Txt.partition z "/").2.2))
    else none
  else none
def roadR : List Str → Option Frm
  | [k, a, b] => if isNmB 4 k = true then match gateR a, gateR b with
    | some g, some h => some (.road k g h)
    | _, _ => none
    else none
  | _ => none
def closeR (kn : Kn) : List Str → Option Frm
  | [a, n] => match glk kn n with
    | some gs => match gateR a with
      | some g => if g ∈ gs then some (.close g n) else none
      | none => none
    | none => none
  | _ => none
def turnR (kn : Kn) : List Str → Option Frm
  | [a, b, n] => match glk kn n with
    | some gs => match gateR a, gateR b with
      | some g, some h => if g = h then none else if g ∈ gs ∨ h ∈ gs then some (.turn g h n) else none
      | _, _ => none
    | none => none
  | _ => none
def prodR (kn : Kn) : List Str → Option Frm
  | [a, m, b] => if m = "*" ∧ (glk kn a).isSome = true ∧ (glk kn b).isSome = true then some (.prod a b) else none
  | _ => none
def kinR (kn : Kn) (ns : List Str) : Bool := match ns with
  | [] => false
  | a :: _ => ns.all (fun n => (glk kn n).isSome) && ns.all fun n => decide (glk kn n = glk kn a)
def addR (kn : Kn) (t : List Str) : Option Frm := match allR facR (OGX.stepA t 0) with
  | some fs => if fs.length = (OGX.stepA t 1).length ∧ kinR kn (OGX.stepA t 1) = true then some (.add (fs.zip (OGX.stepA t 1))) else none
  | none => none
def formR (kn : Kn) (ws : List Str) : Option Frm := match ws with
  | [] => none
  | h :: t => if h = "one" then (gatesR t).map .one else if h = "road" then roadR t else if h = "close" then closeR kn t else if h = "turn" then turnR kn t else if h = "add" then addR kn t else prodR kn (h :: t)
theorem roadR_w {kn : Kn} {ws : List Str} {f : Frm} (h : roadR ws = some f) : FrmW kn f := by
  unfold roadR at h
  split at h
  · split at h
    · split at h
      · rename_i e1 e2
        cases h
        exact ⟨gateR_rng e1, gateR_rng e2⟩
      · cases h
    · cases h
  · cases h
theorem closeR_w {kn : Kn} {ws : List Str} {f : Frm} (h : closeR kn ws = some f) : FrmW kn f := by
  unfold closeR at h
  split at h
  · split at h
    · rename_i gs e
      split at h
      · split at h
        · rename_i m
          cases h
          exact ⟨gs, e, m⟩
        · cases h
      · cases h
    · cases h
  · cases h
theorem turnR_w {kn : Kn} {ws : List Str} {f : Frm} (h : turnR kn ws = some f) : FrmW kn f := by
  unfold turnR at h
  split at h
  · split at h
    · rename_i gs e
      split at h
      · rename_i e1 e2
        split at h
        · cases h
        · rename_i ne
          split at h
          · rename_i m
            cases h
            exact ⟨ne, gateR_rng e1, gateR_rng e2, gs, e, m⟩
          · cases h
      · cases h
    · cases h
  · cases h
theorem some_of {α : Type} {o : Option α} (h : o.isSome = true) : ∃ x, o = some x := by
  cases o with
  | none => cases h
  | some x => exact ⟨x, rfl⟩
theorem prodR_w {kn : Kn} {ws : List Str} {f : Frm} (h : prodR kn ws = some f) : FrmW kn f := by
  unfold prodR at h
  split at h
  · split at h
    · rename_i c
      cases h
      exact ⟨some_of c.2.1, some_of c.2.2⟩
    · cases h
  · cases h
theorem kinR_at {kn : Kn} {ns : List Str} (h : kinR kn ns = true) : ∃ a r gs, ns = a :: r ∧ ∀ n ∈ ns, glk kn n = some gs := by
  cases ns with
  | nil => cases h
  | cons a r =>
    unfold kinR at h
    rw [Bool.and_eq_true, List.all_eq_true, List.all_eq_true] at h
    obtain ⟨gs, e⟩ := some_of (h.1 a List.mem_cons_self)
    exact ⟨a, r, gs, rfl, fun n hn => (of_decide_eq_true (h.2 n hn)).trans e⟩
theorem addR_w {kn : Kn} {ws : List Str} {f : Frm} (h : addR kn ws = some f) : FrmW kn f := by
  unfold addR at h
  split at h
  · rename_i fs e
    split at h
    · rename_i c
      cases h
      obtain ⟨a, r, gs, e1, e2⟩ := kinR_at c.2
      refine ⟨fun z => ?_, gs, fun p hp => e2 _ (List.of_mem_zip hp).2⟩
      have l := congrArg List.length z
      rw [List.length_zip, c.1, e1] at l
      simp at l
    · cases h
  · cases h
theorem formR_w {kn : Kn} {ws : List Str} {f : Frm} (h : formR kn ws = some f) : FrmW kn f := by
  unfold formR at h
  split at h
  · cases h
  · rename_i hd t
    split at h
    · cases e : gatesR t with
      | none => rw [e] at h; cases h
      | some gs =>
        rw [e] at h
        cases h
        exact gatesR_ok e
    · split at h
      · exact roadR_w h
      · split at h
        · exact closeR_w h
        · split at h
          · exact turnR_w h
          · split at h
            · exact addR_w h
            · exact prodR_w h
def lineR (kn : Kn) (row : Str) : Option Ln := match Txt.split row " " with
  | nm :: e :: ws => if lnmB nm = true ∧ glk kn nm = none ∧ e = "=" then (formR kn ws).map (Ln.mk nm) else none
  | _ => none
def rowsR : Kn → Nat → List Str → Nat ⊕ List Ln
  | _, _, [] => .inr []
  | kn, n, r :: rs => match lineR kn r with
    | none => .inl n
    | some l => match rowsR (kn ++ [(l.nm, l.fm.gates kn)]) (n + 1) rs with
      | .inl k => .inl k
      | .inr ls => .inr (l :: ls)
def textR (z : Str) : Nat ⊕ List Ln := match Txt.split z "\n" with
  | [] => .inl 1
  | h :: rs => if h = "script" then (if rs = [] then .inl 2 else rowsR [] 2 rs) else .inl 1
theorem lineR_w {kn : Kn} {row : Str} {l : Ln} (h : lineR kn row = some l) : FrmW kn l.fm ∧ lnmB l.nm = true ∧ glk kn l.nm = none := by
  unfold lineR at h
  split at h
  · split at h
    · rename_i nm e ws _ c
      cases ef : formR kn ws with
      | none => rw [ef] at h; cases h
      | some f =>
        rw [ef] at h
        cases h
        exact ⟨formR_w ef, c.1, c.2.1⟩
    · cases h
  · cases h
/-- what is known behind a read line -/
theorem KnOk.more {kn : Kn} {row : Str} {l : Ln} (h : KnOk kn) (e : lineR kn row = some l) : KnOk (kn ++ [(l.nm, l.fm.gates kn)]) := by
  obtain ⟨e1, _, e2⟩ := lineR_w e
  refine ⟨?_, fun p hp => ?_⟩
  · rw [List.map_append, List.nodup_append]
    refine ⟨h.nd, by simp, fun a ha b hb z => ?_⟩
    have hb : b = l.nm := by simpa using hb
    subst hb
    subst z
    exact glk_none.mp e2 ha
  · rcases List.mem_append.mp hp with hp | hp
    · exact h.gs p hp
    · rw [List.mem_singleton.mp hp]
      exact e1.gsok h
end OG
set_option Elab.async false
set_option linter.all false
set_option maxRecDepth 100000
set_option maxHeartbeats 8000000
namespace OG
open PySem PySem.Spec PyProof.Rows L2
theorem strip_len (z y : Str) : (Txt.rstripChars z y).length ≤ z.length := by
  unfold Txt.rstripChars Txt.stripBy
  split
  · exact Nat.le_refl _
  · unfold stripped
    show (Array.extract z.cps _ _).size ≤ z.cps.size
    rw [Array.size_extract]
    omega
section
variable {P : Program} {w : World} {K : PySem.W.Frag} {mg : Str → Option Value} {base : Heap}
def spLName : Sp := fun vs H Q _ => ∃ z : Str, vs = [.str z] ∧ z.length ≤ 5000000 ∧ ∀ H', Same H H' → Q (.bl (lnmB z)) H'
theorem ok_is_line_name (T : Txt K mg) : FnOk P w K mg base CX0 3 T.f_is_line_name T.fd_is_line_name ["word"] (spLName) := by
  refine T.F_is_line_name.ok sc_is_line_name (fun vs H Q E h => ?_) (fun cdv A outer s H vs Q E hr h => ?_)
  · obtain ⟨z, rfl, _⟩ := h
    rfl
  · obtain ⟨z, rfl, hz, q⟩ := h
    refine ⟨_, (pss_cons (ps_set (i := 1) sc_is_line_name.nd rfl (Or.inl rfl) (pe_bm PySem.F.plainAttrs_str PySem.F.slot_str_rstrip PySem.F.type_str_rstrip mt_rstripChars (pv 0) (pa_cons (C8.pe_gc (by rfl) T.m_FIGURES) pa_nil)))
  (pss_one (ps_ret (pe_and (pe_call (ok_is_letters T) (hr.mono (by decide)) (by rfl) T.g_is_letters T.F_is_letters.kp T.b_is_letters .nil pass0 (pa_cons (pv 1) (pa_cons pe_int pa_nil))) (pe_and (pe_cmpR op_le (pe_op op_sub (pe_callB call_len_str (by rfl) T.n_len PySem.boot_len (pa_cons (pv 0) pa_nil)) (pe_callB call_len_str (by rfl) T.n_len PySem.boot_len (pa_cons (pv 1) pa_nil))) pe_int (nomark _)) (pe_one (pe_cmpR op_notIn_seq (pv 0) (C8.pe_gc (by rfl) T.m_NO_NAMES) rfl))))))), ?_⟩
    have wide : ∀ {n : Nat}, n ≤ 10000000 → n ≤ sizeLine := fun h => Nat.le_trans h (by decide)
    obtain ⟨y, ey⟩ : ∃ y, y = Txt.rstripChars z "0123456789" := ⟨_, rfl⟩
    have yl : y.length ≤ z.length := by
      rw [ey]
      exact strip_len z _
    refine ⟨_, rfl, rfl, z, _, rfl, rfl, wide (by omega), ?_⟩
    rw [← ey]
    refine ⟨_, rfl, y, 6, rfl, by omega, fun H1 s1 => ?_⟩
    refine ⟨_, rfl, ?_⟩
    unfold lnmB at q
    rw [← ey] at q
    cases e1 : isNmB 6 y with
    | false =>
      refine iteF ?_
      have := q H1 s1
      rw [e1, Bool.false_and] at this
      exact this
    | true =>
      refine iteT ?_
      refine ⟨_, rfl, z, rfl, wide (by omega), _, rfl, y, rfl, wide (by omega), _, _, rfl, rfl, _, _, rfl, rfl, _, rfl, ?_⟩
      have q := q H1 s1
      rw [e1, Bool.true_and] at q
      rw [show decide ((z.length : Int) - (y.length : Int) ≤ 9) = decide (z.length - y.length ≤ 9) from decide_eq_decide.mpr (by omega)]
      cases e2 : decide (z.length - y.length ≤ 9) with
      | false =>
        refine iteF ?_
        rw [e2, Bool.false_and] at q
        exact q
      | true =>
        refine iteT ?_
        rw [e2, Bool.true_and] at q
        refine ⟨_, rfl, _, _, rfl, .inr (T.sq_NO_NAMES H1), rfl, flat_strs _, ?_⟩
        rw [inV_str]
        exact q
theorem small4 {ks : List Int} (h : ks.Nodup) (hr : ∀ k ∈ ks, 1 ≤ k ∧ k ≤ 4) : ks.length ≤ 4 := by
  have e := asc4_ok fun x => decide (x ∈ ks)
  have nd : (asc4 fun x => decide (x ∈ ks)).Nodup := e.asc.imp fun h e => by omega
  have p : ks.Perm (asc4 fun x => decide (x ∈ ks)) := (List.perm_ext_iff_of_nodup h nd).mpr fun x => by
    rw [mem_asc4, decide_eq_true_eq]
    exact ⟨fun hx => ⟨hr x hx, hx⟩, fun h => h.2⟩
  rw [p.length_eq]
  exact e.len
def oV : Option Int → V
  | some g => .int g
  | none => .non
def spGateOf : Sp := fun vs H Q _ => ∃ (z : Str), vs = [.str z] ∧ ∀ H', Same H H' → Q (oV (gateR z)) H'
theorem ok_gate_of (T : Txt K mg) : FnOk P w K mg base CX0 3 T.f_gate_of T.fd_gate_of ["word"] (spGateOf) := by
  refine T.F_gate_of.ok sc_gate_of (fun vs H Q E h => ?_) (fun cdv A outer s H vs Q E hr h => ?_)
  · obtain ⟨z, rfl, _⟩ := h
    rfl
  · obtain ⟨z, rfl, q⟩ := h
    refine ⟨_, (pss_one (ps_ret (pe_ifExp (pt_cmpR op_in_seq (pv 0) (pe_tup (pa_cons pe_str (pa_cons pe_str (pa_cons pe_str (pa_cons pe_str pa_nil))))) rfl) (pe_callTy (OGX.call_int_strL T.dig) (by rfl) T.n_int (by decide +kernel) (pa_cons (pv 0) pa_nil)) pe_non))), ?_⟩
    have wide : ∀ {n : Nat}, n ≤ 1000 → n ≤ sizeLine := fun h => Nat.le_trans h (by decide)
    refine ⟨_, rfl, wide (show 4 ≤ 1000 by decide), fun t ht => ⟨t, gateW.map V.str, rfl, .inr (SqT.of upd_same), rfl, flat_strs _, _, rfl, ?_⟩⟩
    rw [inV_str]
    have q := q _ (same_new (o := .tup (gateW.map V.str)) ht)
    unfold gateR at q
    by_cases m : z ∈ gateW
    · rw [if_pos m] at q
      obtain ⟨_, m2, m3, m4⟩ := gateW_at m
      rw [decide_eq_true m]
      refine iteT ?_
      exact ⟨_, rfl, z, _, rfl, m2, wide (by omega), m4, q⟩
    · rw [if_neg m] at q
      rw [decide_eq_false m]
      exact iteF q
def spAsc (K : PySem.W.Frag) : Sp := fun vs H Q _ => ∃ (p : Addr) (ns : List Int), vs = [.ref p] ∧ (SqL K H p (ns.map V.int) ∨ SqT K H p (ns.map V.int)) ∧ ns.length ≤ 4000 ∧ (∀ g ∈ ns, 1 ≤ g ∧ g ≤ 4) ∧
  ∀ (v : V) (H' : Hp), Same H H' → Td K H' v (gsD (asc4 fun x => decide (x ∈ ns))) → Q v H'
theorem ok_ascending (T : Txt K mg) : FnOk P w K mg base CX0 3 T.f_ascending T.fd_ascending ["found"] (spAsc K) := by
  refine T.F_ascending.ok sc_ascending (fun vs H Q E h => ?_) (fun cdv A outer s H vs Q E hr h => ?_)
  · obtain ⟨p, ns, rfl, _⟩ := h
    rfl
  · obtain ⟨p, ns, rfl, hq, hl, hr, q⟩ := h
    refine ⟨_, (pss_one (ps_ret (pe_callTy call_tuple_of (by rfl) T.n_tuple (by decide +kernel) (pa_cons (pe_callB (cr_sortedSet rfl) (by rfl) T.n_sorted (by decide +kernel) (pa_cons (pe_callTy (OGX.cr_setI rfl) (by rfl) T.n_set (by decide +kernel) (pa_cons (pv 0) pa_nil)) pa_nil)) pa_nil)))), ?_⟩
    refine ⟨_, rfl, p, ns, rfl, hq, hl, fun a c ks k1 k2 k3 ha => ?_⟩
    refine ⟨a, _, c, rfl, upd_same, by
      have := small4 k1 fun k hk => hr k ((k3 k).mp hk)
      omega, fun ms L hs hm hlen hL => ?_⟩
    refine ⟨L, _, rfl, .inl ⟨SqL.of upd_same, fun t ht => ?_⟩⟩
    refine q _ _ (((same_new ha).trans (same_new hL)).trans (same_new ht)) ?_
    have e : ms = asc4 fun x => decide (x ∈ ns) := asc_ext hs (asc4_ok _).asc fun x => by
      rw [mem_asc4, hm x]
      exact ⟨fun h => ⟨hr x (of_decide_eq_true h), h⟩, fun h => h.2⟩
    rw [← e]
    exact td_gs (SqT.of upd_same)
end
end OG
set_option Elab.async false
set_option linter.all false
set_option maxRecDepth 100000
set_option maxHeartbeats 8000000
namespace OG
open PySem PySem.Spec PyProof.Rows L2
section
variable {K : PySem.W.Frag} {a D : Addr} {xs : List V} {sl : Nat} {tt : TT} {te : TE} {vs : List Nat} {σ : L2.St} {H1 : Hp} {Qd : Hp → Prop}
theorem lc_mapTV (zs : List V) (hz : zs.length = xs.length) (hl : xs.length ≤ 10000000) (hD : H1 D = none) (hT : SqT K H1 a xs) (hw : ∀ x, wipe ((wipe σ vs).set sl (some x)) vs = wipe σ vs)
    (ht : ∀ x H' (Q : Bool → Hp → Prop), Q true H' → tt ((wipe σ vs).set sl (some x)) H' Q) (he : ∀ (i : Nat) x y H' (Q : VK), xs[i]? = some x → zs[i]? = some y → Same H1 H' → (∀ H2, Same H' H2 → Q y H2) → te ((wipe σ vs).set sl (some x)) H' Q)
    (hd : ∀ H', Same H1 H' → H' D = some (.lst zs) → Qd H') :
    ∃ W : Nat → Nat → Hp → Prop, (∃ m, W 0 m (upd H1 D (.lst []))) ∧ ∀ i m H, W i m H →
      ((Itt K a).stop i H ∧ Qd H) ∨ ((Itt K a).go i H ∧ ∃ Nx : Hp → Prop, (∀ H', Nx H' → ∃ m', m' < m ∧ W (i + 1) m' H') ∧ ∀ x H', (Itt K a).yld i H x H' → gName sl x (wipe σ vs) H' fun σ2 H2 => wipe σ2 vs = wipe σ vs ∧ tt σ2 H2 fun b H3 =>
        if b = true then te σ2 H3 fun y H4 => ∃ acc, H4 D = some (.lst acc) ∧ acc.length < sizeLine ∧ Nx (upd H4 D (.lst (acc ++ [y]))) else Nx H3) := by
  refine lc_tup (K := K) (a := a) (xs := xs) (fun i H' => Same H1 H' ∧ H' D = some (.lst (zs.take i))) ⟨same_new hD, upd_same⟩ (fun i H' _ ⟨s, _⟩ => SqT.tk hT (Same.tk s)) ?_ ?_
  · rintro i x H' hx ⟨s, g⟩
    have hi : i < zs.length := by
      rw [hz]
      exact (List.getElem?_eq_some_iff.mp hx).1
    have hy : zs[i]? = some (zs[i]'hi) := List.getElem?_eq_getElem hi
    have tm := take_more hy
    refine ⟨hw x, ht x H' _ ?_⟩
    refine iteT ?_
    refine he i x _ H' _ hx hy s fun H2 s2 => ?_
    refine ⟨_, s2 _ _ g, ?_, fun b o e' => ?_, ?_⟩
    · exact Nat.lt_of_le_of_lt (show (zs.take i).length ≤ 10000000 by rw [List.length_take]; omega) (by decide)
    · rw [upd_ne (ne_of_none e' hD)]
      exact (s.trans s2) _ _ e'
    · rw [upd_same, tm]
  · rintro H' ⟨s, g⟩
    rw [← hz, List.take_length] at g
    exact hd H' s g
theorem lc_mapLV (zs : List V) (hz : zs.length = xs.length) (hl : xs.length ≤ 10000000) (hD : H1 D = none) (hT : SqL K H1 a xs) (hw : ∀ x, wipe ((wipe σ vs).set sl (some x)) vs = wipe σ vs)
    (ht : ∀ x H' (Q : Bool → Hp → Prop), Q true H' → tt ((wipe σ vs).set sl (some x)) H' Q) (he : ∀ (i : Nat) x y H' (Q : VK), xs[i]? = some x → zs[i]? = some y → Same H1 H' → (∀ H2, Same H' H2 → Q y H2) → te ((wipe σ vs).set sl (some x)) H' Q)
    (hd : ∀ H', Same H1 H' → H' D = some (.lst zs) → Qd H') :
    ∃ W : Nat → Nat → Hp → Prop, (∃ m, W 0 m (upd H1 D (.lst []))) ∧ ∀ i m H, W i m H →
      ((Itl K a).stop i H ∧ Qd H) ∨ ((Itl K a).go i H ∧ ∃ Nx : Hp → Prop, (∀ H', Nx H' → ∃ m', m' < m ∧ W (i + 1) m' H') ∧ ∀ x H', (Itl K a).yld i H x H' → gName sl x (wipe σ vs) H' fun σ2 H2 => wipe σ2 vs = wipe σ vs ∧ tt σ2 H2 fun b H3 =>
        if b = true then te σ2 H3 fun y H4 => ∃ acc, H4 D = some (.lst acc) ∧ acc.length < sizeLine ∧ Nx (upd H4 D (.lst (acc ++ [y]))) else Nx H3) := by
  refine lc_list (K := K) (a := a) (xs := xs) (fun i H' => Same H1 H' ∧ H' D = some (.lst (zs.take i))) ⟨same_new hD, upd_same⟩ (fun i H' _ ⟨s, _⟩ => SqL.ext hT s) ?_ ?_
  · rintro i x H' hx ⟨s, g⟩
    have hi : i < zs.length := by
      rw [hz]
      exact (List.getElem?_eq_some_iff.mp hx).1
    have hy : zs[i]? = some (zs[i]'hi) := List.getElem?_eq_getElem hi
    have tm := take_more hy
    refine ⟨hw x, ht x H' _ ?_⟩
    refine iteT ?_
    refine he i x _ H' _ hx hy s fun H2 s2 => ?_
    refine ⟨_, s2 _ _ g, ?_, fun b o e' => ?_, ?_⟩
    · exact Nat.lt_of_le_of_lt (show (zs.take i).length ≤ 10000000 by rw [List.length_take]; omega) (by decide)
    · rw [upd_ne (ne_of_none e' hD)]
      exact (s.trans s2) _ _ e'
    · rw [upd_same, tm]
  · rintro H' ⟨s, g⟩
    rw [← hz, List.take_length] at g
    exact hd H' s g
end
end OG
set_option Elab.async false
set_option linter.all false
set_option maxRecDepth 100000
set_option maxHeartbeats 8000000
namespace OG
open PySem PySem.Spec PyProof.Rows L2
theorem iteF' {c : Prop} [Decidable c] {A B : Prop} (h : ¬ c) (b : B) : if c then A else B := by rwa [if_neg h]
theorem iteT' {c : Prop} [Decidable c] {A B : Prop} (h : c) (b : A) : if c then A else B := by rwa [if_pos h]
theorem len0 {z : Str} (h : z.length = 0) : z = "" := by
  obtain ⟨a⟩ := z
  have h : a.size = 0 := h
  have : a = #[] := Array.eq_empty_of_size_eq_zero h
  subst this
  rfl
theorem shaped_ints (xs : List Int) : SeqAt.shaped (gsD xs) = true := by
  unfold SeqAt.shaped
  rw [Bool.and_eq_true]
  refine ⟨by simp only [PyData.canLay0]; exact lay_intsP xs, decide_eq_true ?_⟩
  simp only [PyData.depth, depth_ints]
  decide
section
variable {P : Program} {w : World} {K : PySem.W.Frag} {mg : Str → Option Value} {base : Heap}
def spFacOf : Sp := fun vs H Q _ => ∃ (z : Str), vs = [.str z] ∧ z.length ≤ 5000000 ∧ (facR z = none → ∀ H', Same H H' → Q .non H') ∧ ∀ (f : Fac) (a : Addr) (H' : Hp), facR z = some f → Same H H' → H' a = some (.tup [.int f.1, .int f.2]) → Q (.ref a) H'
theorem ok_factor_of (T : Txt K mg) : FnOk P w K mg base CX0 3 T.f_factor_of T.fd_factor_of ["word"] (spFacOf) := by
  refine T.F_factor_of.ok sc_factor_of (fun vs H Q E h => ?_) (fun cdv A outer s H vs Q E hr h => ?_)
  · obtain ⟨z, rfl, _⟩ := h
    rfl
  · obtain ⟨z, rfl, hz, qn, qs⟩ := h
    refine ⟨_, (pss_cons (ps_asg (pe_partition (pv 0) pe_str) (pg_tup (by rfl) (pgs_cons (pg_name (i := 1) sc_factor_of.nd rfl (Or.inl rfl)) (pgs_cons (pg_name (i := 2) sc_factor_of.nd rfl (Or.inl rfl)) (pgs_cons (pg_name (i := 3) sc_factor_of.nd rfl (Or.inl rfl)) pgs_nil)))))
  (pss_cons (ps_set (i := 4) sc_factor_of.nd rfl (Or.inl rfl) (pe_call (ok_integer_of T) (hr.mono (by decide)) (by rfl) T.g_integer_of T.F_integer_of.kp T.b_integer_of .nil pass0 (pa_cons (pv 1) (pa_cons (C8.pe_gc (by rfl) T.m_MOST_FIGURES) pa_nil))))
  (pss_cons (ps_set (i := 5) sc_factor_of.nd rfl (Or.inl rfl) (pe_ifExp (pt_truth (pv 2) (by intro _; rfl)) (pe_call (ok_integer_of T) (hr.mono (by decide)) (by rfl) T.g_integer_of T.F_integer_of.kp T.b_integer_of .nil pass0 (pa_cons (pv 3) (pa_cons (C8.pe_gc (by rfl) T.m_MOST_FIGURES) pa_nil))) pe_int))
  (pss_cons (ps_if (PW.pt (pw_or (pt_cmpR op_isN (pv 4) pe_non (nomark _)) (pw_or (pt_cmpR op_isN (pv 5) pe_non (nomark _)) (pw_or1 (pt_cmpR op_gt (pe_callBfun cr_gcd (by rfl) T.g_gcd (pa_cons (pv 4) (pa_cons (pv 5) pa_nil))) pe_int (nomark _)))))) (pss_one (ps_ret pe_non)) pss_nil)
  (pss_cons (ps_if (PW.pt (pw_and (pt_truth (pv 2) (by intro _; rfl)) (pw_and1 (pt_cmpR op_lt (pv 5) pe_int (nomark _))))) (pss_one (ps_ret pe_non)) pss_nil)
  (pss_one (ps_ret (pe_tup (pa_cons (pv 4) (pa_cons (pv 5) pa_nil)))))))))), ?_⟩
    have wide : ∀ {n : Nat}, n ≤ 10000000 → n ≤ sizeLine := fun h => Nat.le_trans h (by decide)
    refine ⟨_, rfl, ⟨_, rfl⟩, _, _, rfl, rfl, rfl, wide (by omega), fun p hp => ?_⟩
    obtain ⟨l1, l2, l3⟩ := fact_partition z "/"
    obtain ⟨a, sl, b, ep⟩ : ∃ a sl b, Txt.partition z "/" = (a, sl, b) := ⟨_, _, _, rfl⟩
    have fr : facR z = if numQ 1000 (tl a) = true then (if sl = "" then some (numV (tl a), 1) else if numQ 1000 (tl b) = true ∧ 2 ≤ numV (tl b) ∧ Nat.gcd (numV (tl a)).natAbs (numV (tl b)).natAbs = 1 then some (numV (tl a), numV (tl b)) else none) else none := by
      unfold facR
      rw [ep]
    rw [fr] at qn
    rw [fr] at qs
    rw [ep] at l1 l2 l3 ⊢
    have l1 : a.length ≤ z.length := l1
    have l2 : sl.length ≤ z.length := l2
    have l3 : b.length ≤ z.length := l3
    clear ep fr
    have s0 := same_new (o := .tup [.str a, .str sl, .str b]) hp
    have g0 : (upd H p (.tup [.str a, .str sl, .str b])) p = some (.tup [.str a, .str sl, .str b]) := upd_same
    generalize upd H p (.tup [.str a, .str sl, .str b]) = H1 at *
    refine ⟨p, _, rfl, SqT.of g0, rfl, _, _, rfl, _, _, rfl, _, _, rfl, rfl, ?_⟩
    refine ⟨_, rfl, a, 1000, rfl, by omega, by decide, fun H2 s2 => ?_⟩
    have s02 := s0.trans s2
    have big : ∀ {n : Nat} {q : Bool} {v : Int}, oint q v = .non → q = false := fun {n q v} e => by
      cases q with
      | false => rfl
      | true => cases e
    cases q1 : numQ 1000 (tl a) with
    | false =>
      have qN : ∀ H', Same H H' → Q .non H' := qn (by rw [if_neg (by rw [q1]; decide)])
      by_cases e : sl = ""
      · subst e
        refine ⟨_, rfl, false, ⟨wide (show 0 ≤ 10000000 by decide), rfl⟩, ?_⟩
        refine iteF ?_
        refine ⟨_, rfl, rfl, _, rfl, ?_⟩
        refine iteT' rfl ?_
        refine iteT' rfl ?_
        exact qN _ s02
      · have sl0 : ((sl.length : Int) != 0) = true := by
          have : sl.length ≠ 0 := fun z => e (len0 z)
          simp [this]
        refine ⟨_, rfl, true, ⟨wide (by omega), sl0.symm⟩, ?_⟩
        refine iteT ?_
        refine ⟨_, rfl, b, 1000, rfl, by omega, by decide, fun H3 s3 => ?_⟩
        refine ⟨_, rfl, rfl, _, rfl, ?_⟩
        refine iteT' rfl ?_
        refine iteT' rfl ?_
        exact qN _ (s02.trans s3)
    | true =>
      have tv : oint true (numV (tl a)) = .int (numV (tl a)) := rfl
      rw [tv]
      rw [if_pos q1] at qn
      rw [if_pos q1] at qs
      generalize numV (tl a) = n1 at *
      by_cases e : sl = ""
      · rw [if_pos e] at qs
        subst e
        refine ⟨_, rfl, false, ⟨wide (show 0 ≤ 10000000 by decide), rfl⟩, ?_⟩
        refine iteF ?_
        refine ⟨_, rfl, rfl, _, rfl, ?_⟩
        refine iteF' (by simp) ?_
        refine ⟨_, rfl, rfl, _, rfl, ?_⟩
        refine iteF' (by simp) ?_
        refine ⟨_, rfl, _, rfl, n1, 1, rfl, _, _, rfl, rfl, _, rfl, ?_⟩
        rw [decide_eq_false (show ¬ (1 : Int) < ((Nat.gcd n1.natAbs (1 : Int).natAbs : Nat) : Int) by
          have : Nat.gcd n1.natAbs (1 : Int).natAbs = 1 := Nat.gcd_one_right _
          rw [this]
          decide)]
        refine iteF ?_
        refine ⟨_, rfl, false, ⟨wide (show 0 ≤ 10000000 by decide), rfl⟩, ?_⟩
        refine iteF ?_
        refine iteF ?_
        exact ⟨_, rfl, _, rfl, wide (show 2 ≤ 10000000 by decide), fun c hc => qs (n1, 1) c _ rfl (s02.trans (same_new hc)) upd_same⟩
      · rw [if_neg e] at qs qn
        have sl0 : ((sl.length : Int) != 0) = true := by
          have : sl.length ≠ 0 := fun z => e (len0 z)
          simp [this]
        refine ⟨_, rfl, true, ⟨wide (by omega), sl0.symm⟩, ?_⟩
        refine iteT ?_
        refine ⟨_, rfl, b, 1000, rfl, by omega, by decide, fun H3 s3 => ?_⟩
        have s03 := s02.trans s3
        refine ⟨_, rfl, rfl, _, rfl, ?_⟩
        refine iteF' (by simp) ?_
        cases q2 : numQ 1000 (tl b) with
        | false =>
          have qN : ∀ H', Same H H' → Q .non H' := qn (by rw [if_neg (fun z => by rw [q2] at z; cases z.1)])
          refine ⟨_, rfl, rfl, _, rfl, ?_⟩
          refine iteT' rfl ?_
          refine iteT' rfl ?_
          exact qN _ s03
        | true =>
          have tv : oint true (numV (tl b)) = .int (numV (tl b)) := rfl
          rw [tv]
          generalize numV (tl b) = n2 at *
          refine ⟨_, rfl, rfl, _, rfl, ?_⟩
          refine iteF' (by simp) ?_
          refine ⟨_, rfl, _, rfl, n1, n2, rfl, _, _, rfl, rfl, _, rfl, ?_⟩
          by_cases g : (1 : Int) < ((Nat.gcd n1.natAbs n2.natAbs : Nat) : Int)
          · have qN : ∀ H', Same H H' → Q .non H' := qn (by rw [if_neg (fun z => by have := z.2.2; omega)])
            rw [decide_eq_true g]
            refine iteT ?_
            exact qN _ s03
          · rw [decide_eq_false g]
            refine iteF ?_
            refine ⟨_, rfl, true, ⟨wide (by omega), sl0.symm⟩, ?_⟩
            refine iteT ?_
            refine ⟨_, rfl, _, _, rfl, rfl, _, rfl, ?_⟩
            by_cases l2 : n2 < 2
            · have qN : ∀ H', Same H H' → Q .non H' := qn (by rw [if_neg (fun z => by have := z.2.1; omega)])
              rw [decide_eq_true l2]
              refine iteT ?_
              exact qN _ s03
            · rw [decide_eq_false l2]
              refine iteF ?_
              have gp : 0 < Nat.gcd n1.natAbs n2.natAbs := Nat.gcd_pos_of_pos_right _ (by omega)
              exact ⟨_, rfl, _, rfl, wide (show 2 ≤ 10000000 by decide), fun c hc => qs (n1, n2) c _ (by rw [if_pos ⟨q2, by omega, by omega⟩]) (s03.trans (same_new hc)) upd_same⟩
def spRGates (K : PySem.W.Frag) : Sp := fun vs H Q _ => ∃ (l : Addr) (ws : List Str), vs = [.ref l] ∧ SqL K H l (ws.map V.str) ∧ ws.length ≤ 4000 ∧ (gatesR ws = none → ∀ H', Same H H' → Q .non H') ∧
  ∀ (gs : List Int) (v : V) (H' : Hp), gatesR ws = some gs → Same H H' → Td K H' v (gsD gs) → Q v H'
theorem ok_read_gates (T : Txt K mg) : FnOk P w K mg base CX0 4 T.f_read_gates T.fd_read_gates ["words"] (spRGates K) := by
  refine T.F_read_gates.ok sc_read_gates (fun vs H Q E h => ?_) (fun cdv A outer s H vs Q E hr h => ?_)
  · obtain ⟨l, ws, rfl, _⟩ := h
    rfl
  · obtain ⟨l, ws, rfl, hL, hl, qn, qs⟩ := h
    refine ⟨_, (pss_cons (ps_set (i := 1) sc_read_gates.nd rfl (Or.inl rfl) (pe_callTy call_tuple_of (by rfl) T.n_tuple (by decide +kernel) (pa_cons (pe_lc (own := [("word", 2)]) (g := gName 2) (by rfl) sc_read_gates.nd (pi_list (pv 0)) (blkOk_by (own := [("word", 2)]) (by rfl)) (fun _ _ _ _ _ => (pg_name (i := 2) sc_read_gates.nd rfl (Or.inl rfl))) (fun _ _ _ _ _ => pts_nil) (fun _ _ _ _ _ => (pe_call (ok_gate_of T) (hr.mono (by decide)) (by rfl) T.g_gate_of T.F_gate_of.kp T.b_gate_of .nil pass0 (pa_cons (pv 2) pa_nil)))) pa_nil)))
  (pss_one (ps_ret (pe_ifExp (PW.pt (pw_or (pt_cmpR op_in_seq pe_non (pv 1) rfl) (pw_or1 (pt_cmpR (op_neD hr.units) (pv 1) (pe_call (ok_ascending T) (hr.mono (by decide)) (by rfl) T.g_ascending T.F_ascending.kp T.b_ascending .nil pass0 (pa_cons (pv 1) pa_nil)) (nomark _))))) pe_non (pv 1))))), ?_⟩
    have wide : ∀ {n : Nat}, n ≤ 10000000 → n ≤ sizeLine := fun h => Nat.le_trans h (by decide)
    refine ⟨_, rfl, l, rfl, ⟨_, hL⟩, fun D hD => ?_⟩
    obtain ⟨ys, hys⟩ : ∃ ys : List V, ys = ws.map fun z => oV (gateR z) := ⟨_, rfl⟩
    have ly : ys.length = ws.length := by
      rw [hys, List.length_map]
    refine lc_mapLV (K := K) (a := l) ys (by rw [ly, List.length_map]) (by rw [List.length_map]; omega) hD hL (fun _ => rfl) (fun _ _ _ q => q) (fun i x y H' Q hx hy s q => ?_) (fun H1 s1 gD => ?_)
    · obtain ⟨z, hz, rfl⟩ := str_at hx
      refine ⟨_, rfl, z, rfl, fun H2 s2 => ?_⟩
      have e : oV (gateR z) = y := by
        rw [hys, List.getElem?_map, hz] at hy
        exact Option.some.inj hy
      rw [e]
      exact q _ s2
    cases ea : allR gateR ws with
    | none =>
      have qN : ∀ H', Same H H' → Q .non H' := qn (by unfold gatesR; rw [ea])
      obtain ⟨z, hz, ez⟩ := allR_none.mp ea
      have m : V.non ∈ ys := by
        rw [hys]
        exact List.mem_map.mpr ⟨z, hz, by rw [ez]; rfl⟩
      refine ⟨D, ys, rfl, .inl ⟨SqL.of gD, fun t ht => ?_⟩⟩
      have st := s1.trans (same_new (o := .tup ys) ht)
      have gt : (upd H1 t (.tup ys)) t = some (.tup ys) := upd_same
      generalize upd H1 t (.tup ys) = H2 at *
      have fl : ys.all flatV = true := by
        rw [hys, List.all_map, List.all_eq_true]
        intro z _
        show flatV (oV (gateR z)) = true
        cases gateR z <;> rfl
      refine ⟨_, rfl, t, _, rfl, .inr (SqT.of gt), rfl, fl, _, rfl, ?_⟩
      have iv : inV .non ys = true := by
        unfold inV
        exact List.any_eq_true.mpr ⟨_, m, rfl⟩
      rw [show (if false = true then !inV V.non ys else inV V.non ys) = inV V.non ys from rfl, iv]
      refine iteT ?_
      refine iteT ?_
      exact qN _ st
    | some gs =>
      obtain ⟨lg, ag⟩ := allR_some ea
      have ey : ys = gs.map V.int := by
        rw [hys]
        refine List.ext_getElem? fun i => ?_
        rw [List.getElem?_map, List.getElem?_map]
        cases e : ws[i]? with
        | none =>
          have : gs[i]? = none := List.getElem?_eq_none_iff.mpr (by
            have := List.getElem?_eq_none_iff.mp e
            omega)
          rw [this]
          rfl
        | some z =>
          obtain ⟨g, e1, e2⟩ := ag i z e
          rw [e1]
          show some (oV (gateR z)) = some (V.int g)
          rw [e2]
          rfl
      have rng : ∀ g ∈ gs, 1 ≤ g ∧ g ≤ 4 := fun g hg => by
        obtain ⟨i, hi⟩ := List.getElem?_of_mem hg
        have li := (List.getElem?_eq_some_iff.mp hi).1
        obtain ⟨g', e1, e2⟩ := ag i (ws[i]'(by omega)) (List.getElem?_eq_getElem (by omega))
        rw [hi] at e1
        cases e1
        exact gateR_rng e2
      rw [ey] at gD
      refine ⟨D, _, rfl, .inl ⟨SqL.of gD, fun t ht => ?_⟩⟩
      have st := s1.trans (same_new (o := .tup (gs.map V.int)) ht)
      have gt : (upd H1 t (.tup (gs.map V.int))) t = some (.tup (gs.map V.int)) := upd_same
      generalize upd H1 t (.tup (gs.map V.int)) = H2 at *
      refine ⟨_, rfl, t, _, rfl, .inr (SqT.of gt), rfl, flat_ints _, _, rfl, ?_⟩
      rw [show (if false = true then !inV V.non (gs.map V.int) else inV V.non (gs.map V.int)) = inV V.non (gs.map V.int) from rfl, inV_non]
      refine iteF ?_
      refine ⟨_, rfl, _, rfl, t, gs, rfl, .inr (SqT.of gt), by omega, rng, fun v H3 s3 gv => ?_⟩
      have g3 := td_gs (gs := gs) (SqT.of (K := K) (s3 _ _ gt))
      refine ⟨gsD gs, gsD (asc4 fun x => decide (x ∈ gs)), g3.dp, gv.dp, shaped_ints gs, shaped_ints _, _, rfl, ?_⟩
      rw [eqv_gs]
      by_cases e : gs = asc4 fun x => decide (x ∈ gs)
      · rw [decide_eq_true e]
        refine iteF ?_
        exact ⟨_, rfl, qs gs _ _ (by unfold gatesR; rw [ea]; exact if_pos e) (st.trans s3) g3⟩
      · rw [decide_eq_false e]
        refine iteT ?_
        exact qn (by unfold gatesR; rw [ea]; exact if_neg e) _ (st.trans s3)
end
end OG
set_option Elab.async false
set_option linter.all false
set_option maxRecDepth 100000
set_option maxHeartbeats 8000000
namespace OG
open PySem PySem.Spec PyProof.Rows L2
/-- what a form's words tell -/
def Frm.told (kn : Kn) (f : Frm) : PyData := .tuple [.str f.word, .tuple f.partsL, gsD (f.gates kn)]
/-- words that can be read -/
structure WsOk (ws : List Str) : Prop where
  len : ws.length ≤ 4000
  tx : ∀ z ∈ ws, TxOk 5000000 z
theorem WsOk.tail {w : Str} {ws : List Str} (h : WsOk (w :: ws)) : WsOk ws := ⟨Nat.le_trans (Nat.le_succ _) h.len, fun z hz => h.tx z (List.mem_cons_of_mem _ hz)⟩
theorem three {ws : List Str} (h : ws.length = 3) : ∃ a b c, ws = [a, b, c] := by
  match ws, h with
  | [a, b, c], _ => exact ⟨a, b, c, rfl⟩
theorem two {ws : List Str} (h : ws.length = 2) : ∃ a b, ws = [a, b] := by
  match ws, h with
  | [a, b], _ => exact ⟨a, b, rfl⟩
theorem roadR_n3 {ws : List Str} (h : ws.length ≠ 3) : roadR ws = none := by
  unfold roadR
  split
  · exact absurd rfl h
  · rfl
theorem prodR_n3 {kn : Kn} {ws : List Str} (h : ws.length ≠ 3) : prodR kn ws = none := by
  unfold prodR
  split
  · exact absurd rfl h
  · rfl
theorem turnR_n3 {kn : Kn} {ws : List Str} (h : ws.length ≠ 3) : turnR kn ws = none := by
  unfold turnR
  split
  · exact absurd rfl h
  · rfl
theorem closeR_n2 {kn : Kn} {ws : List Str} (h : ws.length ≠ 2) : closeR kn ws = none := by
  unfold closeR
  split
  · exact absurd rfl h
  · rfl
theorem vint_ne {a b : Int} (h : a ≠ b) : decide (V.int a = V.int b) = false := decide_eq_false fun z => h (V.int.inj z)
theorem len_i {ws : List Str} {n : Nat} (h : ws.length ≠ n) : (((ws.map V.str).length : Nat) : Int) ≠ (n : Int) := by
  rw [List.length_map]
  omega
section
variable {P : Program} {w : World} {K : PySem.W.Frag} {mg : Str → Option Value} {base : Heap}
def spRd1 (K : PySem.W.Frag) (rd : List Str → Option Frm) : Sp := fun vs H Q _ => ∃ (l : Addr) (ws : List Str), vs = [.ref l] ∧ SqL K H l (ws.map V.str) ∧ WsOk ws ∧ (rd ws = none → ∀ H', Same H H' → Q .non H') ∧
  ∀ (f : Frm) (a : Addr) (H' : Hp), rd ws = some f → Same H H' → Td K H' (.ref a) (f.told []) → Q (.ref a) H'
def spRdG (K : PySem.W.Frag) (rd : Kn → List Str → Option Frm) : Sp := fun vs H Q _ => ∃ (l kd : Addr) (kn : Kn) (kvs : List (Key × V)) (ws : List Str), vs = [.ref l, .ref kd] ∧ H kd = some (.dK kvs) ∧ KnD K H kvs kn ∧ KnOk kn ∧ SqL K H l (ws.map V.str) ∧ WsOk ws ∧ (rd kn ws = none → ∀ H', Same H H' → Q .non H') ∧
  ∀ (f : Frm) (a : Addr) (H' : Hp), rd kn ws = some f → Same H H' → Td K H' (.ref a) (f.told kn) → Q (.ref a) H'
def oneR (ws : List Str) : Option Frm := (gatesR ws).map .one
theorem ok_read_one (T : Txt K mg) : FnOk P w K mg base CX0 5 T.f_read_one T.fd_read_one ["words"] (spRd1 K oneR) := by
  refine T.F_read_one.ok sc_read_one (fun vs H Q E h => ?_) (fun cdv A outer s H vs Q E hr h => ?_)
  · obtain ⟨l, f, rfl, _⟩ := h
    rfl
  · obtain ⟨l, ws, rfl, hL, wo, qn, qs⟩ := h
    refine ⟨_, (pss_cons (ps_set (i := 1) sc_read_one.nd rfl (Or.inl rfl) (pe_call (ok_read_gates T) (hr.mono (by decide)) (by rfl) T.g_read_gates T.F_read_gates.kp T.b_read_gates .nil pass0 (pa_cons (pv 0) pa_nil)))
  (pss_one (ps_ret (pe_ifExp (pt_cmpR op_isN (pv 1) pe_non (nomark _)) pe_non (pe_tup (pa_cons pe_str (pa_cons (pv 1) (pa_cons (pv 1) pa_nil)))))))), ?_⟩
    have wide : ∀ {n : Nat}, n ≤ 1000 → n ≤ sizeLine := fun h => Nat.le_trans h (by decide)
    refine ⟨_, rfl, l, ws, rfl, hL, wo.len, fun e H1 s1 => ?_, fun gs v H1 e s1 gv => ?_⟩
    · refine ⟨_, rfl, rfl, _, rfl, ?_⟩
      refine iteT' (by simp) ?_
      exact qn (by unfold oneR; rw [e]; rfl) _ s1
    · obtain ⟨g, rfl, hg⟩ := gv.gs
      refine ⟨_, rfl, rfl, _, rfl, ?_⟩
      refine iteF' (by simp) ?_
      refine ⟨_, rfl, _, rfl, wide (show 3 ≤ 1000 by decide), fun a ha => qs (.one gs) a _ (by unfold oneR; rw [e]; rfl) (s1.trans (same_new ha)) ?_⟩
      have g2 := gv.mv (Same.tk (same_new (o := .tup [.str "one", .ref g, .ref g]) ha))
      exact .tup (SqT.of upd_same) (.cons (.str _) (.cons g2 (.cons g2 .nil)))
theorem ok_read_road (T : Txt K mg) : FnOk P w K mg base CX0 5 T.f_read_road T.fd_read_road ["words"] (spRd1 K roadR) := by
  refine T.F_read_road.ok sc_read_road (fun vs H Q E h => ?_) (fun cdv A outer s H vs Q E hr h => ?_)
  · obtain ⟨l, f, rfl, _⟩ := h
    rfl
  · obtain ⟨l, ws, rfl, hL, wo, qn, qs⟩ := h
    refine ⟨_, (pss_cons (ps_if (PW.pt (pw_or (pt_cmpR op_ne (pe_callB call_len_seq (by rfl) T.n_len PySem.boot_len (pa_cons (pv 0) pa_nil)) pe_int (nomark _)) (pw_or1 (pt_not (pt_val (pe_call (ok_is_letters T) (hr.mono (by decide)) (by rfl) T.g_is_letters T.F_is_letters.kp T.b_is_letters .nil pass0 (pa_cons (pe_ix ix_list (pv 0) pe_int (fun _ _ => rfl)) (pa_cons pe_int pa_nil)))))))) (pss_one (ps_ret pe_non)) pss_nil)
  (pss_cons (ps_set (i := 1) sc_read_road.nd rfl (Or.inl rfl) (pe_call (ok_gate_of T) (hr.mono (by decide)) (by rfl) T.g_gate_of T.F_gate_of.kp T.b_gate_of .nil pass0 (pa_cons (pe_ix ix_list (pv 0) pe_int (fun _ _ => rfl)) pa_nil)))
  (pss_cons (ps_set (i := 2) sc_read_road.nd rfl (Or.inl rfl) (pe_call (ok_gate_of T) (hr.mono (by decide)) (by rfl) T.g_gate_of T.F_gate_of.kp T.b_gate_of .nil pass0 (pa_cons (pe_ix ix_list (pv 0) pe_int (fun _ _ => rfl)) pa_nil)))
  (pss_cons (ps_if (PW.pt (pw_or (pt_cmpR op_isN (pv 1) pe_non (nomark _)) (pw_or1 (pt_cmpR op_isN (pv 2) pe_non (nomark _))))) (pss_one (ps_ret pe_non)) pss_nil)
  (pss_one (ps_ret (pe_tup (pa_cons pe_str (pa_cons (pe_tup (pa_cons (pe_ix ix_list (pv 0) pe_int (fun _ _ => rfl)) (pa_cons (pv 1) (pa_cons (pv 2) pa_nil)))) (pa_cons (pe_call (ok_ascending T) (hr.mono (by decide)) (by rfl) T.g_ascending T.F_ascending.kp T.b_ascending .nil pass0 (pa_cons (pe_tup (pa_cons (pv 1) (pa_cons (pv 2) pa_nil))) pa_nil)) pa_nil)))))))))), ?_⟩
    have wide : ∀ {n : Nat}, n ≤ 1000 → n ≤ sizeLine := fun h => Nat.le_trans h (by decide)
    refine ⟨_, rfl, l, _, rfl, .inl hL, rfl, _, rfl, ?_⟩
    by_cases l3 : ws.length = 3
    case neg =>
      refine iteT' (by rw [vint_ne (show (((ws.map V.str).length : Nat) : Int) ≠ 3 by rw [List.length_map]; omega)]; rfl) ?_
      refine iteT' rfl ?_
      exact qn (roadR_n3 l3) _ (Same.refl _)
    obtain ⟨k, a1, a2, rfl⟩ := three l3
    refine iteF' (by simp) ?_
    have hL : SqL K H l [.str k, .str a1, .str a2] := hL
    have tk := wo.tx k (by simp)
    refine ⟨_, rfl, l, _, 0, .str k, rfl, rfl, hL, rfl, k, 4, rfl, Nat.le_trans tk.len (by decide), fun H1 s1 => ?_⟩
    refine ⟨_, rfl, ?_⟩
    unfold roadR at qn qs
    dsimp only at qn qs
    cases ek : isNmB 4 k with
    | false =>
      rw [if_neg (by rw [ek]; decide)] at qn
      refine iteT' (by simp) ?_
      exact qn rfl _ s1
    | true =>
      rw [if_pos ek] at qn qs
      refine iteF' (by simp) ?_
      have hL1 := SqL.ext hL s1
      refine ⟨_, rfl, l, _, 1, .str a1, rfl, rfl, hL1, rfl, a1, rfl, fun H2 s2 => ?_⟩
      have hL2 := SqL.ext hL1 s2
      refine ⟨_, rfl, l, _, 2, .str a2, rfl, rfl, hL2, rfl, a2, rfl, fun H3 s3 => ?_⟩
      have hL3 := SqL.ext hL2 s3
      have s13 := (s1.trans s2).trans s3
      cases e1 : gateR a1 with
      | none =>
        rw [e1] at qn
        refine ⟨_, rfl, rfl, _, rfl, ?_⟩
        refine iteT' rfl ?_
        refine iteT' rfl ?_
        exact qn rfl _ s13
      | some g =>
        rw [e1] at qn qs
        have hg := gateR_rng e1
        refine ⟨_, rfl, rfl, _, rfl, ?_⟩
        refine iteF' (by simp [oV]) ?_
        cases e2 : gateR a2 with
        | none =>
          rw [e2] at qn
          refine ⟨_, rfl, rfl, _, rfl, ?_⟩
          refine iteT' rfl ?_
          exact qn rfl _ s13
        | some h =>
          rw [e2] at qs
          have hh := gateR_rng e2
          refine ⟨_, rfl, rfl, _, rfl, ?_⟩
          refine iteF' (by simp [oV]) ?_
          refine ⟨_, rfl, l, _, 0, .str k, rfl, rfl, hL3, rfl, _, rfl, _, rfl, wide (show 3 ≤ 1000 by decide), fun t ht => ?_⟩
          refine ⟨_, rfl, _, rfl, wide (show 2 ≤ 1000 by decide), fun u hu => ?_⟩
          refine ⟨u, [g, h], rfl, .inr (SqT.of upd_same), by show 2 ≤ 4000; decide, fun x hx => ?_, fun v H4 s4 gv => ⟨wide (show 3 ≤ 1000 by decide), fun a ha => ?_⟩⟩
          · simp only [List.mem_cons, List.mem_nil_iff, or_false] at hx
            rcases hx with rfl | rfl
            · exact hg
            · exact hh
          have st := ((same_new (o := .tup [.int g, .int h]) hu).trans s4).trans (same_new (o := .tup [.str "road", .ref t, v]) ha)
          refine qs (.road k g h) a _ rfl ((s13.trans (same_new ht)).trans st) ?_
          refine .tup (SqT.of upd_same) (.cons (.str _) (.cons (.tup (SqT.of (st _ _ upd_same)) (.cons (.str _) (.cons (.int _) (.cons (.int _) .nil)))) (.cons (gv.mv (Same.tk (same_new ha))) .nil)))
end
end OG
set_option Elab.async false
set_option linter.all false
set_option maxRecDepth 100000
set_option maxHeartbeats 8000000
namespace OG
open PySem PySem.Spec PyProof.Rows L2
section
variable {P : Program} {w : World} {K : PySem.W.Frag} {mg : Str → Option Value} {base : Heap}
theorem ok_read_product (T : Txt K mg) : FnOk P w K mg base CX0 5 T.f_read_product T.fd_read_product ["words", "gates"] (spRdG K prodR) := by
  refine T.F_read_product.ok sc_read_product (fun vs H Q E h => ?_) (fun cdv A outer s H vs Q E hr h => ?_)
  · obtain ⟨l, kd, kn, kvs, f, rfl, _⟩ := h
    rfl
  · obtain ⟨l, kd, kn, kvs, ws, rfl, gk, hkn, hko, hL, wo, qn, qs⟩ := h
    refine ⟨_, (pss_cons (ps_if (PW.pt (pw_or (pt_cmpR op_ne (pe_callB call_len_seq (by rfl) T.n_len PySem.boot_len (pa_cons (pv 0) pa_nil)) pe_int (nomark _)) (pw_or1 (pt_cmpR op_ne (pe_ix ix_list (pv 0) pe_int (fun _ _ => rfl)) pe_str (nomark _))))) (pss_one (ps_ret pe_non)) pss_nil)
  (pss_cons (ps_set (i := 2) sc_read_product.nd rfl (Or.inl rfl) (pe_ix ix_list (pv 0) pe_int (fun _ _ => rfl)))
  (pss_cons (ps_set (i := 3) sc_read_product.nd rfl (Or.inl rfl) (pe_ix ix_list (pv 0) pe_int (fun _ _ => rfl)))
  (pss_cons (ps_if (PW.pt (pw_or (pt_cmp (pc_dnotin (hu_of hr) (pv 2) (pv 1))) (pw_or1 (pt_cmp (pc_dnotin (hu_of hr) (pv 3) (pv 1)))))) (pss_one (ps_ret pe_non)) pss_nil)
  (pss_one (ps_ret (pe_tup (pa_cons pe_str (pa_cons (pe_tup (pa_cons (pv 2) (pa_cons (pv 3) pa_nil))) (pa_cons (pe_call (ok_ascending T) (hr.mono (by decide)) (by rfl) T.g_ascending T.F_ascending.kp T.b_ascending .nil pass0 (pa_cons (pe_op op_catA (pe_dget (hu_of hr) (pv 1) (pv 2) (fun _ _ => rfl)) (pe_dget (hu_of hr) (pv 1) (pv 3) (fun _ _ => rfl))) pa_nil)) pa_nil)))))))))), ?_⟩
    have wide : ∀ {n : Nat}, n ≤ 1000 → n ≤ sizeLine := fun h => Nat.le_trans h (by decide)
    refine ⟨_, rfl, l, _, rfl, .inl hL, rfl, _, rfl, ?_⟩
    by_cases l3 : ws.length = 3
    case neg =>
      refine iteT' (by rw [vint_ne (show (((ws.map V.str).length : Nat) : Int) ≠ 3 by rw [List.length_map]; omega)]; rfl) ?_
      refine iteT' rfl ?_
      exact qn (prodR_n3 l3) _ (Same.refl _)
    obtain ⟨x, m, y, rfl⟩ := three l3
    refine iteF' (by simp) ?_
    have hL : SqL K H l [.str x, .str m, .str y] := hL
    unfold prodR at qn qs
    dsimp only at qn qs
    refine ⟨_, rfl, l, _, 1, .str m, rfl, rfl, hL, rfl, rfl, _, rfl, ?_⟩
    by_cases em : m = "*"
    case neg =>
      refine iteT' (by rw [decide_eq_false fun z => em (V.str.inj z)]; rfl) ?_
      exact qn (if_neg fun z => em z.1) _ (Same.refl _)
    subst em
    refine iteF' (by simp) ?_
    refine ⟨_, rfl, l, _, 0, .str x, rfl, rfl, hL, rfl, ?_⟩
    refine ⟨_, rfl, l, _, 2, .str y, rfl, rfl, hL, rfl, ?_⟩
    cases ea : glk kn x with
    | none =>
      refine ⟨_, rfl, _, rfl, kd, none, rfl, .inl ⟨kvs, .inr x, .inl gk, rfl, (hkn.no ea).symm⟩, _, rfl, ?_⟩
      refine iteT' rfl ?_
      refine iteT' rfl ?_
      exact qn (if_neg fun z => by rw [ea] at z; cases z.2.1) _ (Same.refl _)
    | some ga =>
      obtain ⟨va, va1, va2⟩ := hkn.get ea
      obtain ⟨aa, rfl, va3⟩ := va2.gs
      have la := (hko.at ea).len
      refine ⟨_, rfl, _, rfl, kd, some (.ref aa), rfl, .inl ⟨kvs, .inr x, .inl gk, rfl, va1.symm⟩, _, rfl, ?_⟩
      refine iteF' (by simp) ?_
      cases eb : glk kn y with
      | none =>
        refine ⟨_, rfl, _, rfl, kd, none, rfl, .inl ⟨kvs, .inr y, .inl gk, rfl, (hkn.no eb).symm⟩, _, rfl, ?_⟩
        refine iteT' rfl ?_
        exact qn (if_neg fun z => by rw [eb] at z; cases z.2.2) _ (Same.refl _)
      | some gb =>
        obtain ⟨vb, vb1, vb2⟩ := hkn.get eb
        obtain ⟨ab, rfl, vb3⟩ := vb2.gs
        have lb := (hko.at eb).len
        refine ⟨_, rfl, _, rfl, kd, some (.ref ab), rfl, .inl ⟨kvs, .inr y, .inl gk, rfl, vb1.symm⟩, _, rfl, ?_⟩
        refine iteF' (by simp) ?_
        refine ⟨_, rfl, _, rfl, wide (show 2 ≤ 1000 by decide), fun t ht => ?_⟩
        have s1 := same_new (o := .tup [.str x, .str y]) ht
        have gt : (upd H t (.tup [.str x, .str y])) t = some (.tup [.str x, .str y]) := upd_same
        generalize upd H t (.tup [.str x, .str y]) = H1 at *
        refine ⟨_, rfl, _, rfl, kd, .ref aa, rfl, .inl ⟨kvs, .inr x, .inl (s1 _ _ gk), rfl, va1.symm⟩, _, rfl, _, rfl, kd, .ref ab, rfl, .inl ⟨kvs, .inr y, .inl (s1 _ _ gk), rfl, vb1.symm⟩, ?_⟩
        refine catI (K := K) (SqT.tk va3 (Same.tk s1)) (SqT.tk vb3 (Same.tk s1)) (by rw [List.length_map, List.length_map]; omega) fun bt H2 s2 g2 => ?_
        rw [← List.map_append] at g2
        refine ⟨bt, ga ++ gb, rfl, .inr g2, by rw [List.length_append]; omega, fun z hz => ?_, fun v H4 s4 gv => ⟨wide (show 3 ≤ 1000 by decide), fun a ha => ?_⟩⟩
        · rcases List.mem_append.mp hz with hz | hz
          · exact (hko.at ea).rng z hz
          · exact (hko.at eb).rng z hz
        have st := (s2.trans s4).trans (same_new (o := .tup [.str "*", .ref t, v]) ha)
        refine qs (.prod x y) a _ (if_pos ⟨rfl, by rw [ea]; rfl, by rw [eb]; rfl⟩) (s1.trans st) ?_
        refine .tup (SqT.of upd_same) (.cons (.str _) (.cons (.tup (SqT.of (st _ _ gt)) (.cons (.str _) (.cons (.str _) .nil))) (.cons ?_ .nil)))
        show Td K _ _ (gsD (asc4 fun z => decide (z ∈ (glk kn x).getD [] ++ (glk kn y).getD [])))
        rw [ea, eb]
        exact gv.mv (Same.tk (same_new ha))
theorem ok_read_close (T : Txt K mg) : FnOk P w K mg base CX0 5 T.f_read_close T.fd_read_close ["words", "gates"] (spRdG K closeR) := by
  refine T.F_read_close.ok sc_read_close (fun vs H Q E h => ?_) (fun cdv A outer s H vs Q E hr h => ?_)
  · obtain ⟨l, kd, kn, kvs, f, rfl, _⟩ := h
    rfl
  · obtain ⟨l, kd, kn, kvs, ws, rfl, gk, hkn, hko, hL, wo, qn, qs⟩ := h
    refine ⟨_, (pss_cons (ps_if (PW.pt (pw_or (pt_cmpR op_ne (pe_callB call_len_seq (by rfl) T.n_len PySem.boot_len (pa_cons (pv 0) pa_nil)) pe_int (nomark _)) (pw_or1 (pt_cmp (pc_dnotin (hu_of hr) (pe_ix ix_list (pv 0) pe_int (fun _ _ => rfl)) (pv 1)))))) (pss_one (ps_ret pe_non)) pss_nil)
  (pss_cons (ps_set (i := 2) sc_read_close.nd rfl (Or.inr rfl) (pe_call (ok_gate_of T) (hr.mono (by decide)) (by rfl) T.g_gate_of T.F_gate_of.kp T.b_gate_of .nil pass0 (pa_cons (pe_ix ix_list (pv 0) pe_int (fun _ _ => rfl)) pa_nil)))
  (pss_cons (ps_set (i := 3) sc_read_close.nd rfl (Or.inl rfl) (pe_ix ix_list (pv 0) pe_int (fun _ _ => rfl)))
  (pss_cons (ps_if (pt_cmpR op_notIn_seq (pv 2) (pe_dget (hu_of hr) (pv 1) (pv 3) (fun _ _ => rfl)) rfl) (pss_one (ps_ret pe_non)) pss_nil)
  (pss_one (ps_ret (pe_tup (pa_cons pe_str (pa_cons (pe_tup (pa_cons (pv 2) (pa_cons (pv 3) pa_nil))) (pa_cons (pe_callTy call_tuple_of (by rfl) T.n_tuple (by decide +kernel) (pa_cons (pe_lc (own := [("left", 4)]) (g := gName 4) (by rfl) sc_read_close.nd (pi_tup (pe_dget (hu_of hr) (pv 1) (pv 3) (fun _ _ => rfl))) (blkOk_by (own := [("left", 4)]) (by rfl)) (fun _ _ _ _ _ => (pg_name (i := 4) sc_read_close.nd rfl (Or.inl rfl))) (fun _ _ _ _ _ => (pts_one (pt_cmpR op_ne (pv 4) (pv 2) (nomark _)))) (fun _ _ _ _ _ => (pv 4))) pa_nil)) pa_nil)))))))))), ?_⟩
    have wide : ∀ {n : Nat}, n ≤ 1000 → n ≤ sizeLine := fun h => Nat.le_trans h (by decide)
    refine ⟨_, rfl, l, _, rfl, .inl hL, rfl, _, rfl, ?_⟩
    by_cases l2 : ws.length = 2
    case neg =>
      refine iteT' (by rw [vint_ne (show (((ws.map V.str).length : Nat) : Int) ≠ 2 by rw [List.length_map]; omega)]; rfl) ?_
      refine iteT' rfl ?_
      exact qn (closeR_n2 l2) _ (Same.refl _)
    obtain ⟨a1, x, rfl⟩ := two l2
    refine iteF' (by simp) ?_
    have hL : SqL K H l [.str a1, .str x] := hL
    unfold closeR at qn qs
    dsimp only at qn qs
    cases ea : glk kn x with
    | none =>
      rw [ea] at qn
      refine ⟨_, rfl, l, _, 1, .str x, rfl, rfl, hL, rfl, _, rfl, kd, none, rfl, .inl ⟨kvs, .inr x, .inl gk, rfl, (hkn.no ea).symm⟩, _, rfl, ?_⟩
      refine iteT' rfl ?_
      exact qn rfl _ (Same.refl _)
    | some ga =>
      rw [ea] at qn qs
      obtain ⟨va, va1, va2⟩ := hkn.get ea
      obtain ⟨aa, rfl, va3⟩ := va2.gs
      have la := (hko.at ea).len
      refine ⟨_, rfl, l, _, 1, .str x, rfl, rfl, hL, rfl, _, rfl, kd, some (.ref aa), rfl, .inl ⟨kvs, .inr x, .inl gk, rfl, va1.symm⟩, _, rfl, ?_⟩
      refine iteF' (by simp) ?_
      refine ⟨_, rfl, l, _, 0, .str a1, rfl, rfl, hL, rfl, a1, rfl, fun H1 s1 => ?_⟩
      have hL1 := SqL.ext hL s1
      refine ⟨_, rfl, l, _, 1, .str x, rfl, rfl, hL1, rfl, ?_⟩
      have va31 := SqT.tk va3 (Same.tk s1)
      have flo : flatV (oV (gateR a1)) = true := by
        cases gateR a1 <;> rfl
      refine ⟨_, rfl, _, rfl, _, rfl, kd, .ref aa, rfl, .inl ⟨kvs, .inr x, .inl (s1 _ _ gk), rfl, va1.symm⟩, aa, _, rfl, .inr va31, flo, flat_ints _, _, rfl, ?_⟩
      rw [show (if true = true then !inV (oV (gateR a1)) (ga.map V.int) else inV (oV (gateR a1)) (ga.map V.int)) = !inV (oV (gateR a1)) (ga.map V.int) from rfl]
      cases e1 : gateR a1 with
      | none =>
        rw [e1] at qn
        refine iteT' (by rw [show oV none = V.non from rfl, inV_non]; rfl) ?_
        exact qn rfl _ s1
      | some g =>
        rw [e1] at qn qs
        dsimp only at qn qs
        rw [show oV (some g) = V.int g from rfl, inV_int]
        by_cases gm : g ∈ ga
        case neg =>
          rw [if_neg gm] at qn
          refine iteT' (by rw [decide_eq_false gm]; rfl) ?_
          exact qn rfl _ s1
        rw [if_pos gm] at qs
        refine iteF' (by rw [decide_eq_true gm]; decide) ?_
        refine ⟨_, rfl, _, rfl, wide (show 2 ≤ 1000 by decide), fun t ht => ?_⟩
        have s2 := s1.trans (same_new (o := .tup [.int g, .str x]) ht)
        have gt : (upd H1 t (.tup [.int g, .str x])) t = some (.tup [.int g, .str x]) := upd_same
        generalize upd H1 t (.tup [.int g, .str x]) = H2 at *
        have va32 := SqT.tk va3 (Same.tk s2)
        refine ⟨_, rfl, _, rfl, kd, .ref aa, rfl, .inl ⟨kvs, .inr x, .inl (s2 _ _ gk), rfl, va1.symm⟩, aa, rfl, ⟨_, va32⟩, fun D hD => ?_⟩
        refine lc_filtT (K := K) (a := aa) (xs := ga.map V.int) (fun v => !decide (v = .int g)) (by rw [List.length_map]; omega) hD va32 (fun _ => rfl) (fun z H' Q hx s3 kk => ?_) (fun z H' Q kk => ⟨_, rfl, kk⟩) (fun H' s3 gD => ?_)
        · obtain ⟨y, _, rfl⟩ := List.mem_map.mp hx
          exact ⟨_, rfl, _, rfl, rfl, _, rfl, kk _ (Same.refl _)⟩
        · rw [filt_ints _ (fun z => !decide (z = g)) (fun y => by rw [show decide (V.int y = V.int g) = decide (y = g) from decide_eq_decide.mpr ⟨V.int.inj, congrArg V.int⟩])] at gD
          refine ⟨D, _, rfl, .inl ⟨SqL.of gD, fun u hu => ⟨wide (show 3 ≤ 1000 by decide), fun a ha => ?_⟩⟩⟩
          have su := same_new (o := .tup ((ga.filter fun z => !decide (z = g)).map V.int)) hu
          have sa := same_new (o := .tup [.str "close", .ref t, .ref u]) ha
          refine qs (.close g x) a _ rfl (((s2.trans s3).trans su).trans sa) ?_
          refine .tup (SqT.of upd_same) (.cons (.str _) (.cons (.tup (SqT.of (sa _ _ (su _ _ (s3 _ _ gt)))) (.cons (.int _) (.cons (.str _) .nil))) (.cons ?_ .nil)))
          show Td K _ _ (gsD (((glk kn x).getD []).filter fun z => !decide (z = g)))
          rw [ea]
          exact td_gs (SqT.of (sa _ _ upd_same))
end
end OG
set_option Elab.async false
set_option linter.all false
set_option maxRecDepth 100000
set_option maxHeartbeats 8000000
namespace OG
open PySem PySem.Spec PyProof.Rows L2 OGX
section
variable {P : Program} {w : World} {K : PySem.W.Frag} {mg : Str → Option Value} {base : Heap}
theorem ok_read_turn (T : Txt K mg) : FnOk P w K mg base CX0 5 T.f_read_turn T.fd_read_turn ["words", "gates"] (spRdG K turnR) := by
  refine T.F_read_turn.ok sc_read_turn (fun vs H Q E h => ?_) (fun cdv A outer s H vs Q E hr h => ?_)
  · obtain ⟨l, kd, kn, kvs, f, rfl, _⟩ := h
    rfl
  · obtain ⟨l, kd, kn, kvs, ws, rfl, gk, hkn, hko, hL, wo, qn, qs⟩ := h
    refine ⟨_, (pss_cons (ps_if (PW.pt (pw_or (pt_cmpR op_ne (pe_callB call_len_seq (by rfl) T.n_len PySem.boot_len (pa_cons (pv 0) pa_nil)) pe_int (nomark _)) (pw_or1 (pt_cmp (pc_dnotin (hu_of hr) (pe_ix ix_list (pv 0) pe_int (fun _ _ => rfl)) (pv 1)))))) (pss_one (ps_ret pe_non)) pss_nil)
  (pss_cons (ps_set (i := 2) sc_read_turn.nd rfl (Or.inl rfl) (pe_call (ok_gate_of T) (hr.mono (by decide)) (by rfl) T.g_gate_of T.F_gate_of.kp T.b_gate_of .nil pass0 (pa_cons (pe_ix ix_list (pv 0) pe_int (fun _ _ => rfl)) pa_nil)))
  (pss_cons (ps_set (i := 3) sc_read_turn.nd rfl (Or.inl rfl) (pe_call (ok_gate_of T) (hr.mono (by decide)) (by rfl) T.g_gate_of T.F_gate_of.kp T.b_gate_of .nil pass0 (pa_cons (pe_ix ix_list (pv 0) pe_int (fun _ _ => rfl)) pa_nil)))
  (pss_cons (ps_set (i := 4) sc_read_turn.nd rfl (Or.inl rfl) (pe_ix ix_list (pv 0) pe_int (fun _ _ => rfl)))
  (pss_cons (ps_if (PW.pt (pw_or (pt_cmpR op_isN (pv 2) pe_non (nomark _)) (pw_or (pt_cmpR op_isN (pv 3) pe_non (nomark _)) (pw_or1 (pt_cmpR op_eq (pv 2) (pv 3) (nomark _)))))) (pss_one (ps_ret pe_non)) pss_nil)
  (pss_cons (ps_if (OGX.pt_cut (PW.pt (pw_and (pt_cmpR op_notIn_seq (pv 2) (pe_dget (hu_of hr) (pv 1) (pv 4) (fun _ _ => rfl)) rfl) (pw_and1 (pt_cmpR op_notIn_seq (pv 3) (pe_dget (hu_of hr) (pv 1) (pv 4) (fun _ _ => rfl)) rfl))))) (pss_one (ps_ret pe_non)) pss_nil)
  (pss_cons (ps_set (i := 5) sc_read_turn.nd rfl (Or.inr rfl) (pe_disp (pps_cons (pv 2) (pv 3) (pps_cons (pv 3) (pv 2) pps_nil)) (by rfl) (by rfl) (fun z => by cases z) (by decide)))
  (pss_one (ps_ret (pe_tup (pa_cons pe_str (pa_cons (pe_tup (pa_cons (pv 2) (pa_cons (pv 3) (pa_cons (pv 4) pa_nil)))) (pa_cons (pe_call (ok_ascending T) (hr.mono (by decide)) (by rfl) T.g_ascending T.F_ascending.kp T.b_ascending .nil pass0 (pa_cons (pe_lc (own := [("gate", 6)]) (g := gName 6) (by rfl) sc_read_turn.nd (pi_tup (pe_dget (hu_of hr) (pv 1) (pv 4) (fun _ _ => rfl))) (blkOk_by (own := [("gate", 6)]) (by rfl)) (fun _ _ _ _ _ => (pg_name (i := 6) sc_read_turn.nd rfl (Or.inl rfl))) (fun _ _ _ _ _ => pts_nil) (fun _ _ _ _ _ => (pe_dget2 (hu_of hr) (pv 5) (pv 6) (pv 6) ⟨rfl, rfl, rfl, rfl⟩))) pa_nil)) pa_nil))))))))))))), ?_⟩
    have wide : ∀ {n : Nat}, n ≤ 1000 → n ≤ sizeLine := fun h => Nat.le_trans h (by decide)
    refine ⟨_, rfl, l, _, rfl, .inl hL, rfl, _, rfl, ?_⟩
    by_cases l3 : ws.length = 3
    case neg =>
      refine iteT' (by rw [vint_ne (show (((ws.map V.str).length : Nat) : Int) ≠ 3 by rw [List.length_map]; omega)]; rfl) ?_
      refine iteT' rfl ?_
      exact qn (turnR_n3 l3) _ (Same.refl _)
    obtain ⟨a1, a2, x, rfl⟩ := three l3
    refine iteF' (by simp) ?_
    have hL : SqL K H l [.str a1, .str a2, .str x] := hL
    unfold turnR at qn qs
    dsimp only at qn qs
    cases ea : glk kn x with
    | none =>
      rw [ea] at qn
      refine ⟨_, rfl, l, _, 2, .str x, rfl, rfl, hL, rfl, _, rfl, kd, none, rfl, .inl ⟨kvs, .inr x, .inl gk, rfl, (hkn.no ea).symm⟩, _, rfl, ?_⟩
      refine iteT' rfl ?_
      exact qn rfl _ (Same.refl _)
    | some ga =>
      rw [ea] at qn qs
      dsimp only at qn qs
      obtain ⟨va, va1, va2⟩ := hkn.get ea
      obtain ⟨aa, rfl, va3⟩ := va2.gs
      have la := (hko.at ea).len
      refine ⟨_, rfl, l, _, 2, .str x, rfl, rfl, hL, rfl, _, rfl, kd, some (.ref aa), rfl, .inl ⟨kvs, .inr x, .inl gk, rfl, va1.symm⟩, _, rfl, ?_⟩
      refine iteF' (by simp) ?_
      refine ⟨_, rfl, l, _, 0, .str a1, rfl, rfl, hL, rfl, a1, rfl, fun H1 s1 => ?_⟩
      have hL1 := SqL.ext hL s1
      refine ⟨_, rfl, l, _, 1, .str a2, rfl, rfl, hL1, rfl, a2, rfl, fun H2 s2 => ?_⟩
      have hL2 := SqL.ext hL1 s2
      have s2 := s1.trans s2
      refine ⟨_, rfl, l, _, 2, .str x, rfl, rfl, hL2, rfl, ?_⟩
      cases e1 : gateR a1 with
      | none =>
        rw [e1] at qn
        refine ⟨_, rfl, rfl, _, rfl, ?_⟩
        refine iteT' rfl ?_
        refine iteT' rfl ?_
        exact qn rfl _ s2
      | some g =>
      rw [e1] at qn qs
      have hg := gateR_rng e1
      refine ⟨_, rfl, rfl, _, rfl, ?_⟩
      refine iteF' (by simp [oV]) ?_
      cases e2 : gateR a2 with
      | none =>
        rw [e2] at qn
        refine ⟨_, rfl, rfl, _, rfl, ?_⟩
        refine iteT' rfl ?_
        refine iteT' rfl ?_
        exact qn rfl _ s2
      | some h =>
      rw [e2] at qn qs
      dsimp only at qn qs
      have hh := gateR_rng e2
      refine ⟨_, rfl, rfl, _, rfl, ?_⟩
      refine iteF' (by simp [oV]) ?_
      refine ⟨_, rfl, _, rfl, rfl, _, rfl, ?_⟩
      by_cases hgh : g = h
      · rw [if_pos hgh] at qn
        refine iteT' (by rw [hgh]; exact decide_eq_true rfl) ?_
        exact qn rfl _ s2
      rw [if_neg hgh] at qn qs
      refine iteF' (by simp [oV, hgh]) ?_
      have va32 := SqT.tk va3 (Same.tk s2)
      have gk2 := s2 _ _ gk
      refine ⟨fun b H' => b = !decide (g ∈ ga ∨ h ∈ ga) ∧ H' = H2, fun b H' ⟨eb, eH⟩ => ?_, ?_⟩
      rotate_left
      · refine ⟨_, rfl, _, rfl, _, rfl, kd, .ref aa, rfl, .inl ⟨kvs, .inr x, .inl gk2, rfl, va1.symm⟩, aa, _, rfl, .inr va32, rfl, flat_ints _, _, rfl, ?_⟩
        rw [show (if true = true then !inV (oV (some g)) (ga.map V.int) else inV (oV (some g)) (ga.map V.int)) = !inV (V.int g) (ga.map V.int) from rfl, inV_int]
        by_cases e : g ∈ ga
        · rw [decide_eq_true e]
          refine iteF ⟨?_, rfl⟩
          rw [decide_eq_true (Or.inl e)]
          rfl
        · rw [decide_eq_false e]
          refine iteT ?_
          refine ⟨_, rfl, _, rfl, _, rfl, kd, .ref aa, rfl, .inl ⟨kvs, .inr x, .inl gk2, rfl, va1.symm⟩, aa, _, rfl, .inr va32, rfl, flat_ints _, _, rfl, ?_⟩
          rw [show (if true = true then !inV (oV (some h)) (ga.map V.int) else inV (oV (some h)) (ga.map V.int)) = !inV (V.int h) (ga.map V.int) from rfl, inV_int]
          refine ⟨?_, rfl⟩
          rw [decide_eq_decide.mpr (show (g ∈ ga ∨ h ∈ ga) ↔ h ∈ ga from ⟨fun z => z.resolve_left e, .inr⟩)]
      subst eb
      subst eH
      by_cases gm : g ∈ ga ∨ h ∈ ga
      case neg =>
        rw [if_neg gm] at qn
        refine iteT' (by rw [decide_eq_false gm]; rfl) ?_
        exact qn rfl _ s2
      rw [if_pos gm] at qs
      refine iteF' (by rw [decide_eq_true gm]; decide) ?_
      refine fun d hd => ?_
      refine ⟨_, rfl, _, rfl, _, rfl, _, rfl, upd_same, swD g h, rfl, by show 2 ≤ 15; decide, ?_⟩
      rw [swD_merge hgh]
      have s3 : Same H (upd (upd H' d (.dK [])) d (.dK (swD g h))) := s2.trans fun b o e => by
        rw [upd_ne (ne_of_none e hd), upd_ne (ne_of_none e hd)]
        exact e
      have g3 : (upd (upd H' d (.dK [])) d (.dK (swD g h))) d = some (.dK (swD g h)) := upd_same
      generalize upd (upd H' d (.dK [])) d (.dK (swD g h)) = H3 at *
      refine ⟨_, rfl, _, rfl, _, rfl, wide (show 3 ≤ 1000 by decide), fun t ht => ?_⟩
      have s4 := s3.trans (same_new (o := .tup [.int g, .int h, .str x]) ht)
      have gt : (upd H3 t (.tup [.int g, .int h, .str x])) t = some (.tup [.int g, .int h, .str x]) := upd_same
      have g4 : (upd H3 t (.tup [.int g, .int h, .str x])) d = some (.dK (swD g h)) := same_new ht _ _ g3
      have e4 : upd H3 t (.tup [oV (some g), oV (some h), .str x]) = upd H3 t (.tup [.int g, .int h, .str x]) := rfl
      rw [e4]
      generalize upd H3 t (.tup [.int g, .int h, .str x]) = H4 at *
      have va4 := SqT.tk va3 (Same.tk s4)
      refine ⟨_, rfl, _, rfl, kd, .ref aa, rfl, .inl ⟨kvs, .inr x, .inl (s4 _ _ gk), rfl, va1.symm⟩, aa, rfl, ⟨_, va4⟩, fun D hD => ?_⟩
      refine lc_mapT (K := K) (a := aa) (xs := ga.map V.int) (swF g h) (by rw [List.length_map]; omega) hD va4 (fun _ => rfl) (fun z H' Q kk => kk) (fun z H' Q hx s5 kk => ?_) (fun H' s5 gD => ?_)
      · obtain ⟨y, _, rfl⟩ := List.mem_map.mp hx
        exact ⟨_, rfl, d, rfl, .inl ⟨_, .inl (s5 _ _ g4)⟩, _, rfl, _, rfl, _, .inl ⟨_, .inl y, .inl (s5 _ _ g4), rfl, rfl⟩, kk _ (Same.refl _)⟩
      · rw [swF_map] at gD
        refine ⟨D, ga.map (swp g h), rfl, .inl (SqL.of gD), by rw [List.length_map]; omega, fun z hz => ?_, fun v H5 s6 gv => ⟨wide (show 3 ≤ 1000 by decide), fun a ha => ?_⟩⟩
        · obtain ⟨y, hy, rfl⟩ := List.mem_map.mp hz
          exact swp_rng hg hh ((hko.at ea).rng y hy)
        have sa := same_new (o := .tup [.str "turn", .ref t, v]) ha
        refine qs (.turn g h x) a _ rfl (((s4.trans s5).trans s6).trans sa) ?_
        refine .tup (SqT.of upd_same) (.cons (.str _) (.cons (.tup (SqT.of (sa _ _ (s6 _ _ (s5 _ _ gt)))) (.cons (.int _) (.cons (.int _) (.cons (.str _) .nil)))) (.cons ?_ .nil)))
        show Td K _ _ (gsD (asc4 fun z => decide (z ∈ ((glk kn x).getD []).map (swp g h))))
        rw [ea]
        exact gv.mv (Same.tk sa)
end
end OG
set_option Elab.async false
set_option linter.all false
set_option maxRecDepth 100000
set_option maxHeartbeats 4000000
namespace OGX
open PySem PySem.Spec PyProof.Rows L2
/-! tuple(zip(xs, ys)), two lists of one length: new tuples -/
theorem nolen_zip : typeLookup (.type "zip") "__len__" = pure none := by rw [typeLookup_type, builtinLookup_eq_fast]; kernel_rfl
theorem nohint_zip : typeLookup (.type "zip") "__length_hint__" = pure none := by rw [typeLookup_type, builtinLookup_eq_fast]; kernel_rfl
structure ZSt (z TI TO i1 i2 l1 l2 S : Addr) (i : Nat) (h : Heap) : Prop where
  ti : IsPair h TI (.ref i1) (.ref i2)
  h1 : h.IsListIter i1 l1 i
  h2 : h.IsListIter i2 l2 i
  st : (IsZip h z TI TO .none ∧ ∃ a b, IsPair h TO a b) ∨ ∃ T f oT, IsZipHeld h z TI TO T f ∧ h.get? T = some oT ∧ T ≠ z ∧ T ≠ i1 ∧ T ≠ i2 ∧ T ≠ S
/-- the pairs that were made -/
structure Prs (H : Hp) (xs ys : List V) (i : Nat) (acc : Array Value) (ps : List Addr) : Prop where
  acc : acc.toList = ps.map Value.ref
  len : ps.length = i
  pr : ∀ (j : Nat) (x y : V) (p : Addr), xs[j]? = some x → ys[j]? = some y → ps[j]? = some p → H p = some (.tup [x, y])
theorem Prs.sz {H : Hp} {xs ys : List V} {i : Nat} {acc : Array Value} {ps : List Addr} (h : Prs H xs ys i acc ps) : acc.size = i := by
  rw [← h.len, ← Array.length_toList, h.acc, List.length_map]
theorem Prs.more {H : Hp} {xs ys : List V} {i : Nat} {acc : Array Value} {ps : List Addr} {T : Addr} {x y : V} (h : Prs H xs ys i acc ps) (hT : H T = none) (hx : xs[i]? = some x) (hy : ys[i]? = some y) : Prs (upd H T (.tup [x, y])) xs ys (i + 1) (acc.push (.ref T)) (ps ++ [T]) := by
  refine ⟨by rw [Array.toList_push, h.acc, List.map_append]; rfl, by rw [List.length_append, h.len]; rfl, fun j x' y' p e1 e2 e3 => ?_⟩
  by_cases hj : j < ps.length
  · rw [List.getElem?_append_left hj] at e3
    have q := h.pr j x' y' p e1 e2 e3
    rw [upd_ne (ne_of_none q hT)]
    exact q
  · rw [List.getElem?_append_right (by omega)] at e3
    have hj0 : j = ps.length := by
      have := (List.getElem?_eq_some_iff.mp e3).1
      simp at this
      omega
    subst hj0
    rw [h.len] at e1 e2
    rw [hx] at e1
    rw [hy] at e2
    cases e1
    cases e2
    rw [Nat.sub_self] at e3
    cases e3
    exact upd_same
theorem same_newZ {H : Hp} {p : Addr} {o : HO} (h : H p = none) : Same H (upd H p o) := fun b x e => by
  rw [upd_ne (ne_of_none e h)]
  exact e
theorem _root_.L2.SqL.mvS {K : PySem.W.Frag} {H H' : Hp} {a : Addr} {xs : List V} (h : SqL K H a xs) (e : Same H H') : SqL K H' a xs := h.elim (fun h => .inl (h.elim (fun h => .inl (e _ _ h)) fun ⟨o, h⟩ => .inr ⟨o, e _ _ h⟩)) fun h => .inr h
section
variable {X : Cx} {pins : List (Addr × Obj)} {σ : L2.St} {z TI TO i1 i2 l1 l2 S : Addr} {xs ys : List V}
theorem FpOk.new {b T : Addr} {H : Hp} {o : HO} (h : FpOk X pins H b) (n : b ≠ T) : FpOk X pins (upd H T o) b := ⟨by rw [upd_ne n]; exact h.1, h.2⟩
theorem zip_loop {A : Around} {R : Result → Shared → Prop} (hn : A.handled = none) (D : ZipApart z TI TO i1 i2 l1 l2) (nS : S ∉ [z, TI, TO, i1, i2, l1, l2]) (hl : xs.length = ys.length) (hm : xs.length ≤ 5000) (res : Value) :
    ∀ (k i : Nat) (s : Shared) (H : Hp) (acc : Array Value) (ps : List Addr) (c : Nat), xs.length - i = k → i ≤ xs.length → Inv X pins σ H s → SqL X.K H l1 xs → SqL X.K H l2 ys →
      (∀ b ∈ [S, z, TO, i1, i2], FpOk X pins H b ∧ b < s.heap.objs.size) → ZSt z TI TO i1 i2 l1 l2 S i s.heap → s.heap.get? S = some { cls := .type "list", dict := none, data := .seq acc c, slots := #[] } → Prs H xs ys i acc ps →
      (∀ s' H' acc' ps' c', Inv X pins σ H' s' → Same H H' → s'.heap.get? S = some { cls := .type "list", dict := none, data := .seq acc' c', slots := #[] } → Prs H' xs ys xs.length acc' ps' → FpOk X pins H' S → R (.ok (.ret res)) s') →
      codeAny (model X.prog X.w) A (.builtin "list.extend.loop" ⟨[.ref S, .ref z, res], []⟩) R s := by
  have nSz : S ≠ z := fun e => nS (by simp [e])
  have nSTI : S ≠ TI := fun e => nS (by simp [e])
  have nSTO : S ≠ TO := fun e => nS (by simp [e])
  have nS1 : S ≠ i1 := fun e => nS (by simp [e])
  have nS2 : S ≠ i2 := fun e => nS (by simp [e])
  have nSl1 : S ≠ l1 := fun e => nS (by simp [e])
  have nSl2 : S ≠ l2 := fun e => nS (by simp [e])
  have at4 : ∀ {c : Addr}, c ∉ [S, z, TO, i1, i2] → c ≠ S ∧ c ≠ z ∧ c ≠ TO ∧ c ≠ i1 ∧ c ≠ i2 := fun h => by simpa using h
  intro k
  induction k with
  | zero =>
    intro i s H acc ps c hk hi I q1 q2 hf st hS P hR
    have hin : i = xs.length := by omega
    subst hin
    refine codeAny_builtin F.entry_extend_loop ?_
    rw [Around.under_plainId F.plain_extend_loop _]
    show wpAny _ A.in1 (pyNext (.ref z) >>= _) _ _ s
    obtain ⟨its, rv, lv, _⟩ := I.list q1
    obtain ⟨its2, rv2, lv2, _⟩ := I.list q2
    have e1 := rv.length
    have fin : its.toArray[xs.length]? = none ∨ its2.toArray[xs.length]? = none := .inl (by simp; omega)
    have over : ∀ h' : Heap, (∀ c o, c ≠ z → c ≠ TO → c ≠ i1 → c ≠ i2 → s.heap.get? c = some o → h'.get? c = some o) → R (.ok (.ret res)) { s with heap := h' } := fun h' hk' =>
      hR _ H acc ps c (I.turnedL (t' := s.toks) (ch := [S, z, TO, i1, i2]) (fun b o hb e => hk' b o (at4 hb).2.1 (at4 hb).2.2.1 (at4 hb).2.2.2.1 (at4 hb).2.2.2.2 e) fun b hb => (hf b hb).1) (Same.refl _) (hk' _ _ nSz nSTO nS1 nS2 hS) P (hf S (by simp)).1
    rcases st.st with ⟨hz, a, b, hTO⟩ | ⟨T, f, oT, hz, hT, r1, r2, r3, r4⟩
    · refine wpAny_bind (wpAny_pyNext_zip_end hn D hz st.ti hTO st.h1 st.h2 lv.isList lv2.isList fin fun h' hk' => ?_)
      exact wpAny_pure (over h' hk')
    · refine wpAny_bind (wpAny_pyNext_zip_end_held hn D hz hT st.ti st.h1 st.h2 lv.isList lv2.isList fin fun h' hk' => ?_)
      exact wpAny_pure (over h' fun c o n1 _ n3 n4 e => hk' c o n1 n3 n4 e)
  | succ k ih =>
    intro i s H acc ps c hk hi I q1 q2 hf st hS P hR
    have hlt : i < xs.length := by omega
    refine codeAny_builtin F.entry_extend_loop ?_
    rw [Around.under_plainId F.plain_extend_loop _]
    show wpAny _ A.in1 (pyNext (.ref z) >>= _) _ _ s
    obtain ⟨its, rv, lv, _⟩ := I.list q1
    obtain ⟨its2, rv2, lv2, _⟩ := I.list q2
    have hx : xs[i]? = some xs[i] := List.getElem?_eq_getElem hlt
    have hy : ys[i]? = some (ys[i]'(by omega)) := List.getElem?_eq_getElem (by omega)
    obtain ⟨u, hu, ru⟩ := rv.get hx
    obtain ⟨v, hv, rv'⟩ := rv2.get hy
    have hu : its.toArray[i]? = some u := by simpa using hu
    have hv : its2.toArray[i]? = some v := by simpa using hv
    generalize xs[i] = x at hx ru
    generalize ys[i]'(by omega) = y at hy rv'
    have nT : H s.heap.objs.size = none := I.hok.fresh (Nat.le_refl _)
    have go : ∀ h' : Heap, IsPair h' s.heap.objs.size u v → h'.objs.size = s.heap.objs.size + 1 → (∀ c o, c ≠ z → c ≠ TO → c ≠ i1 → c ≠ i2 → s.heap.get? c = some o → h'.get? c = some o) → ZSt z TI TO i1 i2 l1 l2 S (i + 1) h' →
        codeAny (model X.prog X.w) A (.builtin "list.extend.loop" ⟨[.ref S, .ref z, res], []⟩) R { s with heap := h'.update S (Obj.mapSeq (·.push (.ref s.heap.objs.size))) } := by
      intro h' tp sz hk' st'
      have hS' := hk' S _ nSz nSTO nS1 nS2 hS
      have off : ∀ b o, b ≠ S → h'.get? b = some o → (h'.update S (Obj.mapSeq (·.push (.ref s.heap.objs.size)))).get? b = some o := fun b o n e => (Heap.get?_update_other _ _ (Ne.symm n)).trans e
      have lt : ∀ b ∈ [S, z, TO, i1, i2], b ≠ s.heap.objs.size := fun b hb => Nat.ne_of_lt (hf b hb).2
      have nTS : s.heap.objs.size ≠ S := (lt S (by simp)).symm
      have new : ObjOk X.prog X.w (upd H s.heap.objs.size (.tup [x, y])) (h'.update S (Obj.mapSeq (·.push (.ref s.heap.objs.size)))) s.heap.objs.size (.tup [x, y]) :=
        ⟨by show 2 ≤ sizeLine; decide, [u, v], .cons ru (.cons rv' .nil), ⟨_, off _ _ nTS tp, rfl, _, rfl⟩⟩
      have I' := I.turnedNew (t' := s.toks) (ch := [S, z, TO, i1, i2]) (fun b o hb e => off b o (at4 hb).1 (hk' b o (at4 hb).2.1 (at4 hb).2.2.1 (at4 hb).2.2.2.1 (at4 hb).2.2.2.2 e)) (fun b hb => (hf b hb).1) (Nat.le_refl _) new
      have sm : Same H (upd H s.heap.objs.size (.tup [x, y])) := same_newZ nT
      refine ih (i + 1) _ _ (acc.push (.ref s.heap.objs.size)) (ps ++ [s.heap.objs.size]) _ (by omega) hlt I' (q1.mvS sm) (q2.mvS sm) (fun b hb => ⟨FpOk.new (hf b hb).1 (lt b hb), ?_⟩) ⟨off _ _ nSTI.symm st'.ti, st'.h1.at fun o e => off _ _ nS1.symm e, st'.h2.at fun o e => off _ _ nS2.symm e, ?_⟩ (Heap.get?_update_self _ hS' rfl) (P.more nT hx hy) fun s' H' acc' ps' c' I2 s2 g2 P2 f2 => hR s' H' acc' ps' c' I2 (sm.trans s2) g2 P2 f2
      · have := (hf b hb).2
        show b < (h'.update S _).objs.size
        rw [Heap.size_update, sz]
        exact Nat.lt_succ_of_lt this
      · rcases st'.st with ⟨hz, a, b, hTO⟩ | ⟨T, f, oT, hz, hT, r1, r2, r3, r4⟩
        · exact .inl ⟨off _ _ nSz.symm hz, a, b, off _ _ nSTO.symm hTO⟩
        · exact .inr ⟨T, f, oT, off _ _ nSz.symm hz, off _ _ r4 hT, r1, r2, r3, r4⟩
    have push : ∀ h' : Heap, IsPair h' s.heap.objs.size u v → h'.objs.size = s.heap.objs.size + 1 → (∀ c o, c ≠ z → c ≠ TO → c ≠ i1 → c ≠ i2 → s.heap.get? c = some o → h'.get? c = some o) → ZSt z TI TO i1 i2 l1 l2 S (i + 1) h' →
        True := fun _ _ _ _ _ => trivial
    have ltz : ∀ {c o}, s.heap.get? c = some o → s.heap.objs.size ≠ c := fun e => Nat.ne_of_gt (Heap.lt_size e)
    have n1 : s.heap.objs.size ≠ i1 := let ⟨_, e, _⟩ := st.h1; ltz e
    have n2 : s.heap.objs.size ≠ i2 := let ⟨_, e, _⟩ := st.h2; ltz e
    rcases st.st with ⟨hz, a, b, hTO⟩ | ⟨T, f, oT, hz, hT, r1, r2, r3, r4⟩
    · refine wpAny_bind (wpAny_pyNext_zip_item D hz st.ti hTO st.h1 st.h2 lv.isList lv2.isList hu hv fun h' a1 a2 a3 a4 a5 a6 hk' => ?_)
      show wpAny _ A.in1 (updateSeq S (·.push (.ref s.heap.objs.size)) >>= _) _ _ _
      refine wpAny_bind ?_
      refine wpAny_updateSeq (hk' S _ nSz nSTO nS1 nS2 hS) rfl (wpAny_pure ⟨plainId_quiet F.plain_extend_loop _, go h' a5 a6 hk' ⟨hk' _ _ D.TIz D.TITO D.TIi1 D.TIi2 st.ti, a3, a4, .inr ⟨s.heap.objs.size, false, _, a1, a5, ltz hz, n1, n2, ltz hS⟩⟩⟩) (by rw [P.sz]; exact Nat.le_trans (show i ≤ 5000 by omega) (by decide)) (by show (acc.push _).size ≤ sizeLine + 1; rw [Array.size_push, P.sz]; exact Nat.le_trans (show i + 1 ≤ 5001 by omega) (by decide))
    · refine wpAny_bind (wpAny_pyNext_zip_item_held D hz hT st.ti st.h1 st.h2 lv.isList lv2.isList hu hv fun h' a1 a3 a4 a5 a6 hk' => ?_)
      have hk2 : ∀ c o, c ≠ z → c ≠ TO → c ≠ i1 → c ≠ i2 → s.heap.get? c = some o → h'.get? c = some o := fun c o n1 _ n3 n4 e => hk' c o n1 n3 n4 e
      show wpAny _ A.in1 (updateSeq S (·.push (.ref s.heap.objs.size)) >>= _) _ _ _
      refine wpAny_bind ?_
      refine wpAny_updateSeq (hk2 S _ nSz nSTO nS1 nS2 hS) rfl (wpAny_pure ⟨plainId_quiet F.plain_extend_loop _, go h' a5 a6 hk2 ⟨hk' _ _ D.TIz D.TIi1 D.TIi2 st.ti, a3, a4, .inr ⟨T, true, oT, a1, hk' _ _ r1 r2 r3 hT, r1, r2, r3, r4⟩⟩⟩) (by rw [P.sz]; exact Nat.le_trans (show i ≤ 5000 by omega) (by decide)) (by show (acc.push _).size ≤ sizeLine + 1; rw [Array.size_push, P.sz]; exact Nat.le_trans (show i + 1 ≤ 5001 by omega) (by decide))
theorem collect_zip {A : Around} {E : Value → Shared → Prop} {Q : List Value → Shared → Prop} {s : Shared} {H : Hp} (hn : A.handled = none) (D : ZipApart z TI TO i1 i2 l1 l2) (hl : xs.length = ys.length) (hm : xs.length ≤ 5000) (I : Inv X pins σ H s) (q1 : SqL X.K H l1 xs) (q2 : SqL X.K H l2 ys)
    (hf : ∀ b ∈ [z, TO, i1, i2], FpOk X pins H b) (hz : IsZip s.heap z TI TO .none) (hTI : IsPair s.heap TI (.ref i1) (.ref i2)) (hTO : ∃ a b, IsPair s.heap TO a b) (h1 : s.heap.IsListIter i1 l1 0) (h2 : s.heap.IsListIter i2 l2 0)
    (hQ : ∀ s' H' acc ps, Inv X pins σ H' s' → Same H H' → Prs H' xs ys xs.length acc ps → Q acc.toList s') : wpAny (model X.prog X.w) A (collect (.ref z)) Q E s := by
  have lt : ∀ {b : Addr} {o : Obj}, s.heap.get? b = some o → b ≠ s.heap.objs.size := fun e => Nat.ne_of_lt (Heap.lt_size e)
  obtain ⟨a, b, hTO⟩ := hTO
  have n1 : i1 ≠ s.heap.objs.size := let ⟨_, e, _⟩ := h1; lt e
  have n2 : i2 ≠ s.heap.objs.size := let ⟨_, e, _⟩ := h2; lt e
  obtain ⟨its, rv, lv, _⟩ := I.list q1
  obtain ⟨its2, rv2, lv2, _⟩ := I.list q2
  have m1 : l1 ≠ s.heap.objs.size := let ⟨_, e, _⟩ := lv.isList; lt e
  have m2 : l2 ≠ s.heap.objs.size := let ⟨_, e, _⟩ := lv2.isList; lt e
  have nS : s.heap.objs.size ∉ [z, TI, TO, i1, i2, l1, l2] := fun hm => by
    simp only [List.mem_cons, List.not_mem_nil, or_false] at hm
    rcases hm with e | e | e | e | e | e | e
    · exact lt hz e.symm
    · exact lt hTI e.symm
    · exact lt hTO e.symm
    · exact n1 e.symm
    · exact n2 e.symm
    · exact m1 e.symm
    · exact m2 e.symm
  unfold collect
  refine wpAny_bind (wpAny_runValue (codeAny_builtin F.entry_proto_collect ?_))
  rw [Around.under_plainId F.plain_proto_collect _]
  show wpAny _ A.in1 (newList [] >>= fun l' => again (.builtin "list.__iadd__" ⟨[l', .ref z], []⟩)) _ _ s
  refine wpAny_bind (wpAny_newObj_type ?_)
  refine wpAny_pure ⟨plainId_quiet F.plain_list_iadd _, codeAny_builtin F.entry_list_iadd ?_⟩
  rw [Around.under_plainId F.plain_list_iadd _]
  have hS₁ : (s.heap.push { cls := .type "list", data := .seq ([] : List Value).toArray }).get? s.heap.objs.size = some { cls := .type "list", data := .seq ([] : List Value).toArray } := Heap.get?_push_size _ rfl
  have kp : ∀ b o, s.heap.get? b = some o → (s.heap.push { cls := .type "list", data := .seq ([] : List Value).toArray }).get? b = some o := fun b o e => Heap.get?_push_of_some _ e
  have hT : ({ s with heap := s.heap.push { cls := .type "list", data := .seq ([] : List Value).toArray } } : Shared).TypeIs (.ref z) "zip" := ⟨_, kp _ _ hz, rfl⟩
  have same : Builtin.List.listSameRef (.ref s.heap.objs.size) (.ref z) = false := by simp [Builtin.List.listSameRef, (lt hz).symm]
  have I1 : Inv X pins σ H { s with heap := s.heap.push { cls := .type "list", data := .seq ([] : List Value).toArray } } := I.kept (t' := s.toks) kp
  show wpAny _ A.in1 (Builtin.List.listExtendWith (.ref s.heap.objs.size) (.ref z) (.ref s.heap.objs.size)) _ _ _
  unfold Builtin.List.listExtendWith
  refine wpAny_bind (wpAny_typeOf hT ?_)
  rw [if_neg (by rw [same]; decide)]
  refine wpAny_bind (wpAny_pyIter_zip (s := { s with heap := s.heap.push { cls := .type "list", data := .seq ([] : List Value).toArray } }) (kp _ _ hz) ?_)
  refine wpAny_bind (wpAny_holding ?_)
  unfold Builtin.List.listLengthHint
  refine wpAny_bind (wpAny_specialOf hT nolen_zip ?_)
  show wpAny _ A.in1 (specialOf (Value.ref z) (Str.ofString "__length_hint__") >>= _) _ _ _
  refine wpAny_bind (wpAny_specialOf hT nohint_zip ?_)
  refine wpAny_pure ?_
  show wpAny _ A.in1 (rule "list.extend.makes-room" >>= fun _ => Builtin.List.listTouch (.ref s.heap.objs.size) >>= fun _ =>
    again (.builtin "list.extend.loop" ⟨[.ref s.heap.objs.size, .ref z, .ref s.heap.objs.size], []⟩)) _ _ _
  refine wpAny_bind (wpAny_rule ?_)
  refine wpAny_bind ?_
  show wpAny _ A.in1 (updateSeq s.heap.objs.size (·.push .none) >>= fun _ => updateSeq s.heap.objs.size (·.pop)) _ _ _
  refine wpAny_bind (wpAny_updateSeq hS₁ rfl ?_)
  have hS₂ := Heap.get?_update_self (Obj.mapSeq (·.push Value.none)) hS₁ rfl
  refine wpAny_updateSeq hS₂ rfl ?_
  have hS₃ := Heap.get?_update_self (Obj.mapSeq (·.pop)) hS₂ rfl
  have kp2 : ∀ b o, s.heap.get? b = some o →
      (((s.heap.push { cls := .type "list", data := .seq ([] : List Value).toArray }).update s.heap.objs.size (Obj.mapSeq (·.push Value.none))).update s.heap.objs.size (Obj.mapSeq (·.pop))).get? b = some o :=
    fun b o e => (Heap.get?_update_other _ _ (Ne.symm (lt e))).trans ((Heap.get?_update_other _ _ (Ne.symm (lt e))).trans (kp b o e))
  have I2 := I.kept (t' := s.toks) kp2
  refine wpAny_pure ⟨plainId_quiet F.plain_extend_loop _, zip_loop (X := X) (pins := pins) (σ := σ) hn D nS hl hm _ xs.length 0 _ H _ [] _ rfl (Nat.zero_le _) I2 q1 q2 (fun b hb => ?_) ⟨kp2 _ _ hTI, h1.at fun o e => kp2 _ _ e, h2.at fun o e => kp2 _ _ e, .inl ⟨kp2 _ _ hz, a, b, kp2 _ _ hTO⟩⟩ hS₃ ⟨rfl, rfl, fun j x y p _ _ e => by simp at e⟩ fun s' H' acc' ps' c' I' s2 hS' P _ => ?_⟩
  · have sz := Heap.lt_size hS₃
    rcases List.mem_cons.mp hb with rfl | hb
    · exact ⟨I.fpOk (Nat.le_refl _) (I.hok.fresh (Nat.le_refl _)), sz⟩
    · refine ⟨hf b hb, Nat.lt_trans ?_ sz⟩
      simp only [List.mem_cons, List.not_mem_nil, or_false] at hb
      rcases hb with rfl | rfl | rfl | rfl
      · exact Heap.lt_size hz
      · exact Heap.lt_size hTO
      · obtain ⟨_, e, _⟩ := h1
        exact Heap.lt_size e
      · obtain ⟨_, e, _⟩ := h2
        exact Heap.lt_size e
  · show wpAny _ A (load s.heap.objs.size >>= _) _ _ s'
    refine wpAny_bind (wpAny_load hS' ?_)
    exact wpAny_pure (hQ s' H' acc' ps' I' s2 P)
theorem call_tuple_zip {A : Around} {E : Value → Shared → Prop} {Q : Value → Shared → Prop} {s : Shared} {H : Hp} (hn : A.handled = none) (D : ZipApart z TI TO i1 i2 l1 l2) (hl : xs.length = ys.length) (hm : xs.length ≤ 5000) (I : Inv X pins σ H s) (q1 : SqL X.K H l1 xs) (q2 : SqL X.K H l2 ys)
    (hf : ∀ b ∈ [z, TO, i1, i2], FpOk X pins H b) (hz : IsZip s.heap z TI TO .none) (hTI : IsPair s.heap TI (.ref i1) (.ref i2)) (hTO : ∃ a b, IsPair s.heap TO a b) (h1 : s.heap.IsListIter i1 l1 0) (h2 : s.heap.IsListIter i2 l2 0)
    (hQ : ∀ s' H' acc ps, Inv X pins σ H' s' → Same H H' → Prs H' xs ys xs.length acc ps → Q (.ref s'.heap.objs.size) { s' with heap := s'.heap.push { cls := .type "tuple", data := .seq acc } }) : wpAny (model X.prog X.w) A (call (.type "tuple") [.ref z]) Q E s := by
  have made : codeAny (model X.prog X.w) A.in1 (.call (.builtin "tuple.__new__") ⟨[.type "tuple", .ref z], []⟩) (wants (fun obj s₁ => s₁.TypeIs obj "tuple" ∧ Q obj s₁) E) s := by
    refine codeAny_of_tree ?_
    show wpAny _ A.in1.in1 (do checkBuiltinCall "tuple.__new__" ⟨[.type "tuple", .ref z], []⟩; again (.builtin "tuple.__new__" ⟨[.type "tuple", .ref z], []⟩)) _ _ s
    refine wpAny_bind (wpAny_of_eq (F.newCall_tuple_1 _) (wpAny_pure ⟨plainId_quiet F.plain_tuple_new _, codeAny_builtin F.entry_tuple_new ?_⟩))
    rw [Around.under_plainId F.plain_tuple_new _]
    have hsub := sub_tuple_self
    have hinit := init_tuple_lookup
    have hmh := madeHere_tuple
    have hTz : s.TypeIs (.ref z) "zip" := ⟨_, hz, rfl⟩
    have hh1 : A.in1.in1.handled = none := hn
    wp_walk using wpAny_typeOf hTz, collect_zip (A := A.in1.in1) (X := X) (pins := pins) (σ := σ) hh1 D hl hm I q1 q2 hf hz hTI hTO h1 h2
    intro s' H' acc ps I' s2 P
    show wpAny _ _ (Builtin.Tuple.tupleExact acc.toList.toArray >>= fun v => ret v) _ _ _
    unfold Builtin.Tuple.tupleExact
    refine wpAny_bind (wpAny_newObj_type ?_ (by show acc.toList.toArray.size ≤ sizeLine; simp only [Array.toArray_toList]; rw [P.sz]; exact Nat.le_trans hm (by decide)))
    refine wpAny_pure ?_
    have e : acc.toList.toArray = acc := by simp
    rw [e]
    exact ⟨⟨_, Heap.get?_push_size _ rfl, rfl⟩, hQ s' H' acc ps I' s2 P⟩
  refine callType_codes (Q₁ := fun obj s₁ => s₁.TypeIs obj "tuple" ∧ Q obj s₁) F.called_tuple (F.typeCall_tuple_1 _) F.entry_object_init made fun obj s₁ h₁ => ?_
  exact ⟨h₁.1, F.args_object_init_2 obj _, object_init_meets F.called_tuple.init.lookup F.called_tuple.made (by decide) _ _ A.in1 _ s₁ ⟨h₁.1, rfl, h₁.2⟩⟩
end
def tTupZip (K : PySem.W.Frag) (ta : TA) : TE := fun σ H Q => ta σ H fun vs H1 => ∃ (a b : Addr) (xs ys : List V), vs = [.ref a, .ref b] ∧ SqL K H1 a xs ∧ SqL K H1 b ys ∧ xs.length = ys.length ∧ xs.length ≤ 5000 ∧
  ∀ (t : Addr) (ps : List Addr) (H' : Hp), Same H1 H' → ps.length = xs.length → (∀ (i : Nat) (x y : V) (p : Addr), xs[i]? = some x → ys[i]? = some y → ps[i]? = some p → H' p = some (.tup [x, y])) → H' t = some (.tup (ps.map V.ref)) → Q (.ref t) H'
theorem vals_refs : ∀ ps : List Addr, Vals (ps.map V.ref) (ps.map Value.ref)
  | [] => .nil
  | _ :: r => .cons rfl (vals_refs r)
theorem pe_tupZip {X : Cx} {e e2 : Expr} {ta : TA} {p p2 pos pos2 : Pos} (hc : X.calm = true) (hg : Gl X "tuple") (hm : X.mg "tuple" = none) (hg2 : Gl X "zip") (hm2 : X.mg "zip" = none) (ha : PA X [e, e2] ta)
    (hs : starEach [e, e2] X.env = (false, eval e X.env) :: starEach [e2] X.env := by rfl) (hpl : (backTo pos2 (starEach [e2] X.env)).any (·.1) = false := by rfl)
    (hs1 : starEach [.Call (.Name "zip" p2) [e, e2] [] pos2] X.env = (false, eval (.Call (.Name "zip" p2) [e, e2] [] pos2) X.env) :: starEach [] X.env := by rfl) :
    PE X (.Call (.Name "tuple" p) [.Call (.Name "zip" p2) [e, e2] [] pos2] [] pos) (tTupZip X.K ta) := by
  refine ⟨fun pins s σ H Q I h => ?_⟩
  refine Call_ (ld_blt I hg hm PyProof.Rows.boot_tuple ?_)
  refine PyProof.Rows.callWith_type1 (PyProof.Rows.args_cons ?_ hs1) hs1 rfl
  refine Call_ (ld_blt I hg2 hm2 PyProof.Rows.boot_zip (PyProof.Rows.callWith_type1 (thn (ha.run pos2 pins s σ H _ I h) fun us s1 ⟨vs, H1, I1, r1, q1⟩ => ?_) hs hpl))
  obtain ⟨a, b, xs, ys, ex, q1, q2, hl, hm', q⟩ := q1
  subst ex
  cases r1 with
  | cons r rr =>
    cases rr with
    | cons r' rr =>
      cases rr
      cases r
      cases r'
      obtain ⟨its, rv, p1, _⟩ := I1.list q1
      obtain ⟨its2, rv2, p2', _⟩ := I1.list q2
      refine call_zip_2 p1.isList p2'.isList fun h' hz hTI hTO h1 h2 hsz hk => ?_
      have I2 : Inv X pins σ H1 { s1 with heap := h' } := I1.kept (t' := s1.toks) hk
      refine PyProof.Rows.args_nil ?_
      refine call_tuple_zip (X := X) (pins := pins) (σ := σ) (s := { s1 with heap := h' }) (I1.ok.hd hc) (PySem.W.ktu_apart s1.heap.objs.size a b p1.lt p2'.lt) hl hm' I2 q1 q2 (fun c hcm => ?_) hz hTI ⟨_, _, hTO⟩ h1 h2 fun s' H' acc ps I' sm P => ?_
      · have e' : c = s1.heap.objs.size + 4 ∨ c = s1.heap.objs.size + 3 ∨ c = s1.heap.objs.size ∨ c = s1.heap.objs.size + 1 := by simpa using hcm
        have hle : s1.heap.objs.size ≤ c := by
          rcases e' with z | z | z | z
          · rw [z]; exact Nat.le_add_right _ _
          · rw [z]; exact Nat.le_add_right _ _
          · rw [z]; exact Nat.le_refl _
          · rw [z]; exact Nat.le_add_right _ _
        exact I1.fpOk hle (I1.hok.fresh hle)
      · have eacc : acc = (ps.map Value.ref).toArray := by rw [← P.acc, Array.toArray_toList]
        have new : ObjOk X.prog X.w (upd H' s'.heap.objs.size (.tup (ps.map V.ref))) (s'.heap.push { cls := .type "tuple", data := .seq acc }) s'.heap.objs.size (.tup (ps.map V.ref)) :=
          ⟨by rw [List.length_map, P.len]; exact Nat.le_trans hm' (by decide), ps.map Value.ref, vals_refs ps, ⟨_, Heap.get?_push_size _ rfl, rfl, _, by rw [eacc]⟩⟩
        have nT : H' s'.heap.objs.size = none := I'.hok.fresh (Nat.le_refl _)
        have s3 := same_newZ (o := .tup (ps.map V.ref)) nT
        refine ⟨.ref s'.heap.objs.size, _, I'.laid (t' := s'.toks) (fun b o e => Heap.get?_push_of_some _ e) (Nat.le_refl _) new, rfl, ?_⟩
        exact q _ ps _ (sm.trans s3) P.len (fun i x y p e1 e2 e3 => s3 _ _ (P.pr i x y p e1 e2 e3)) upd_same
/-! list(zip(xs, ys)) -/
def tListZip (K : PySem.W.Frag) (ta : TA) : TE := fun σ H Q => ta σ H fun vs H1 => ∃ (a b : Addr) (xs ys : List V), vs = [.ref a, .ref b] ∧ SqL K H1 a xs ∧ SqL K H1 b ys ∧ xs.length = ys.length ∧ xs.length ≤ 5000 ∧
  ∀ (t : Addr) (ps : List Addr) (H' : Hp), Same H1 H' → ps.length = xs.length → (∀ (i : Nat) (x y : V) (p : Addr), xs[i]? = some x → ys[i]? = some y → ps[i]? = some p → H' p = some (.tup [x, y])) → H' t = some (.lst (ps.map V.ref)) → Q (.ref t) H'
section
variable {X : Cx} {pins : List (Addr × Obj)} {σ : L2.St} {z TI TO i1 i2 l1 l2 : Addr} {xs ys : List V}
theorem call_list_zip {A : Around} {E : Value → Shared → Prop} {Q : Value → Shared → Prop} {s : Shared} {H : Hp} (hn : A.handled = none) (D : ZipApart z TI TO i1 i2 l1 l2) (hl : xs.length = ys.length) (hm : xs.length ≤ 5000) (I : Inv X pins σ H s) (q1 : SqL X.K H l1 xs) (q2 : SqL X.K H l2 ys)
    (hf : ∀ b ∈ [z, TO, i1, i2], FpOk X pins H b) (hz : IsZip s.heap z TI TO .none) (hTI : IsPair s.heap TI (.ref i1) (.ref i2)) (hTO : ∃ a b, IsPair s.heap TO a b) (h1 : s.heap.IsListIter i1 l1 0) (h2 : s.heap.IsListIter i2 l2 0)
    (hQ : ∀ s' H' acc ps c, Inv X pins σ H' s' → Same H H' → s'.heap.get? s.heap.objs.size = some { cls := .type "list", dict := none, data := .seq acc c, slots := #[] } → Prs H' xs ys xs.length acc ps → FpOk X pins H' s.heap.objs.size → Q (.ref s.heap.objs.size) s') : wpAny (model X.prog X.w) A (call (.type "list") [.ref z]) Q E s := by
  have lt : ∀ {b : Addr} {o : Obj}, s.heap.get? b = some o → b ≠ s.heap.objs.size := fun e => Nat.ne_of_lt (Heap.lt_size e)
  obtain ⟨a, b, hTO⟩ := hTO
  have n1 : i1 ≠ s.heap.objs.size := let ⟨_, e, _⟩ := h1; lt e
  have n2 : i2 ≠ s.heap.objs.size := let ⟨_, e, _⟩ := h2; lt e
  obtain ⟨its, rv, lv, _⟩ := I.list q1
  obtain ⟨its2, rv2, lv2, _⟩ := I.list q2
  have m1 : l1 ≠ s.heap.objs.size := let ⟨_, e, _⟩ := lv.isList; lt e
  have m2 : l2 ≠ s.heap.objs.size := let ⟨_, e, _⟩ := lv2.isList; lt e
  have nS : s.heap.objs.size ∉ [z, TI, TO, i1, i2, l1, l2] := fun hm => by
    simp only [List.mem_cons, List.not_mem_nil, or_false] at hm
    rcases hm with e | e | e | e | e | e | e
    · exact lt hz e.symm
    · exact lt hTI e.symm
    · exact lt hTO e.symm
    · exact n1 e.symm
    · exact n2 e.symm
    · exact m1 e.symm
    · exact m2 e.symm
  refine callType_codes (Q₁ := fun obj s₁ => obj = .ref s.heap.objs.size ∧ s₁ = { s with heap := s.heap.push { cls := .type "list", data := .seq #[] } }) PySem.F.called_list (PySem.F.typeCall_list_1 _) PySem.F.entry_list_init
    (code_list_new _ ⟨rfl, rfl⟩) fun obj s₁ h₁ => ?_
  obtain ⟨rfl, rfl⟩ := h₁
  have hS₁ : (s.heap.push { cls := .type "list", data := .seq #[] }).get? s.heap.objs.size = some { cls := .type "list", data := .seq #[] } := Heap.get?_push_size _ rfl
  refine ⟨⟨_, hS₁, rfl⟩, PySem.F.args_list_init_2 _ _, ?_⟩
  have kp : ∀ b o, s.heap.get? b = some o → (s.heap.push { cls := .type "list", data := .seq #[] }).get? b = some o := fun b o e => Heap.get?_push_of_some _ e
  show wpAny _ _ (do let old ← Builtin.List.listItems (.ref s.heap.objs.size); Builtin.List.listUpdate (.ref s.heap.objs.size) (fun _ => #[]); letGo old.toList.reverse; Builtin.List.listExtendWith (.ref s.heap.objs.size) (.ref z) .none) _ _ _
  refine wpAny_bind ?_
  unfold Builtin.List.listItems
  refine wpAny_bind (wpAny_seqItems hS₁ rfl (wpAny_pure ?_))
  show wpAny _ _ (updateSeq s.heap.objs.size (fun _ => #[]) >>= fun _ => letGo (#[] : Array Value).toList.reverse >>= fun _ => Builtin.List.listExtendWith (.ref s.heap.objs.size) (.ref z) .none) _ _ _
  refine wpAny_bind (wpAny_updateSeq hS₁ rfl ?_)
  have hS₂ := Heap.get?_update_self (Obj.mapSeq (fun _ => (#[] : Array Value))) hS₁ rfl
  refine wpAny_bind (wpAny_letGo ?_)
  have kp1 : ∀ b o, s.heap.get? b = some o → ((s.heap.push { cls := .type "list", data := .seq #[] }).update s.heap.objs.size (Obj.mapSeq (fun _ => (#[] : Array Value)))).get? b = some o :=
    fun b o e => (Heap.get?_update_other _ _ (Ne.symm (lt e))).trans (kp b o e)
  generalize hh : (s.heap.push { cls := .type "list", data := .seq #[] }).update s.heap.objs.size (Obj.mapSeq (fun _ => (#[] : Array Value))) = hp at *
  have hT : ({ s with heap := hp } : Shared).TypeIs (.ref z) "zip" := ⟨_, kp1 _ _ hz, rfl⟩
  have same : Builtin.List.listSameRef (.ref s.heap.objs.size) (.ref z) = false := by simp [Builtin.List.listSameRef, (lt hz).symm]
  unfold Builtin.List.listExtendWith
  refine wpAny_bind (wpAny_typeOf hT ?_)
  rw [if_neg (by rw [same]; decide)]
  refine wpAny_bind (wpAny_pyIter_zip (s := { s with heap := hp }) (kp1 _ _ hz) ?_)
  refine wpAny_bind (wpAny_holding ?_)
  unfold Builtin.List.listLengthHint
  refine wpAny_bind (wpAny_specialOf hT nolen_zip ?_)
  show wpAny _ _ (specialOf (Value.ref z) (Str.ofString "__length_hint__") >>= _) _ _ _
  refine wpAny_bind (wpAny_specialOf hT nohint_zip ?_)
  refine wpAny_pure ?_
  show wpAny _ _ (rule "list.extend.makes-room" >>= fun _ => Builtin.List.listTouch (.ref s.heap.objs.size) >>= fun _ =>
    again (.builtin "list.extend.loop" ⟨[.ref s.heap.objs.size, .ref z, .none], []⟩)) _ _ _
  refine wpAny_bind (wpAny_rule ?_)
  refine wpAny_bind ?_
  show wpAny _ _ (updateSeq s.heap.objs.size (·.push .none) >>= fun _ => updateSeq s.heap.objs.size (·.pop)) _ _ _
  refine wpAny_bind (wpAny_updateSeq hS₂ rfl ?_)
  have hS₃ := Heap.get?_update_self (Obj.mapSeq (·.push Value.none)) hS₂ rfl
  refine wpAny_updateSeq hS₃ rfl ?_
  have hS₄ := Heap.get?_update_self (Obj.mapSeq (·.pop)) hS₃ rfl
  have kp2 : ∀ b o, s.heap.get? b = some o →
      ((hp.update s.heap.objs.size (Obj.mapSeq (·.push Value.none))).update s.heap.objs.size (Obj.mapSeq (·.pop))).get? b = some o :=
    fun b o e => (Heap.get?_update_other _ _ (Ne.symm (lt e))).trans ((Heap.get?_update_other _ _ (Ne.symm (lt e))).trans (kp1 b o e))
  have I2 := I.kept (t' := s.toks) kp2
  refine wpAny_pure ⟨plainId_quiet F.plain_extend_loop _, zip_loop (A := A.in1) (X := X) (pins := pins) (σ := σ) (show A.in1.handled = none from hn) D nS hl hm _ xs.length 0 _ H _ [] _ rfl (Nat.zero_le _) I2 q1 q2 (fun b hb => ?_) ⟨kp2 _ _ hTI, h1.at fun o e => kp2 _ _ e, h2.at fun o e => kp2 _ _ e, .inl ⟨kp2 _ _ hz, a, b, kp2 _ _ hTO⟩⟩ hS₄ ⟨rfl, rfl, fun j x y p _ _ e => by simp at e⟩ fun s' H' acc' ps' c' I' s2 hS' P F' => ?_⟩
  · have sz := Heap.lt_size hS₄
    rcases List.mem_cons.mp hb with rfl | hb
    · exact ⟨I.fpOk (Nat.le_refl _) (I.hok.fresh (Nat.le_refl _)), sz⟩
    · refine ⟨hf b hb, Nat.lt_trans ?_ sz⟩
      simp only [List.mem_cons, List.not_mem_nil, or_false] at hb
      rcases hb with rfl | rfl | rfl | rfl
      · exact Heap.lt_size hz
      · exact Heap.lt_size hTO
      · obtain ⟨_, e, _⟩ := h1
        exact Heap.lt_size e
      · obtain ⟨_, e, _⟩ := h2
        exact Heap.lt_size e
  · exact ⟨rfl, hQ s' H' acc' ps' c' I' s2 hS' P F'⟩
end
theorem pe_listZip {X : Cx} {e e2 : Expr} {ta : TA} {p p2 pos pos2 : Pos} (hc : X.calm = true) (hg : Gl X "list") (hm : X.mg "list" = none) (hg2 : Gl X "zip") (hm2 : X.mg "zip" = none) (ha : PA X [e, e2] ta)
    (hs : starEach [e, e2] X.env = (false, eval e X.env) :: starEach [e2] X.env := by rfl) (hpl : (backTo pos2 (starEach [e2] X.env)).any (·.1) = false := by rfl)
    (hs1 : starEach [.Call (.Name "zip" p2) [e, e2] [] pos2] X.env = (false, eval (.Call (.Name "zip" p2) [e, e2] [] pos2) X.env) :: starEach [] X.env := by rfl) :
    PE X (.Call (.Name "list" p) [.Call (.Name "zip" p2) [e, e2] [] pos2] [] pos) (tListZip X.K ta) := by
  refine ⟨fun pins s σ H Q I h => ?_⟩
  refine Call_ (ld_blt I hg hm (show bootBuiltins "list" = some (.type "list") by decide +kernel) ?_)
  refine PyProof.Rows.callWith_type1 (PyProof.Rows.args_cons ?_ hs1) hs1 rfl
  refine Call_ (ld_blt I hg2 hm2 PyProof.Rows.boot_zip (PyProof.Rows.callWith_type1 (thn (ha.run pos2 pins s σ H _ I h) fun us s1 ⟨vs, H1, I1, r1, q1⟩ => ?_) hs hpl))
  obtain ⟨a, b, xs, ys, ex, q1, q2, hl, hm', q⟩ := q1
  subst ex
  cases r1 with
  | cons r rr =>
    cases rr with
    | cons r' rr =>
      cases rr
      cases r
      cases r'
      obtain ⟨its, rv, p1, _⟩ := I1.list q1
      obtain ⟨its2, rv2, p2', _⟩ := I1.list q2
      refine call_zip_2 p1.isList p2'.isList fun h' hz hTI hTO h1 h2 hsz hk => ?_
      have I2 : Inv X pins σ H1 { s1 with heap := h' } := I1.kept (t' := s1.toks) hk
      refine PyProof.Rows.args_nil ?_
      refine call_list_zip (X := X) (pins := pins) (σ := σ) (s := { s1 with heap := h' }) (I1.ok.hd hc) (PySem.W.ktu_apart s1.heap.objs.size a b p1.lt p2'.lt) hl hm' I2 q1 q2 (fun c hcm => ?_) hz hTI ⟨_, _, hTO⟩ h1 h2 fun s' H' acc ps c I' sm g P F' => ?_
      · have e' : c = s1.heap.objs.size + 4 ∨ c = s1.heap.objs.size + 3 ∨ c = s1.heap.objs.size ∨ c = s1.heap.objs.size + 1 := by simpa using hcm
        have hle : s1.heap.objs.size ≤ c := by
          rcases e' with z | z | z | z
          · rw [z]; exact Nat.le_add_right _ _
          · rw [z]; exact Nat.le_add_right _ _
          · rw [z]; exact Nat.le_refl _
          · rw [z]; exact Nat.le_add_right _ _
        exact I1.fpOk hle (I1.hok.fresh hle)
      · have eacc : acc = (ps.map Value.ref).toArray := by rw [← P.acc, Array.toArray_toList]
        have new : ObjOk X.prog X.w (upd H' h'.objs.size (.lst (ps.map V.ref))) s'.heap h'.objs.size (.lst (ps.map V.ref)) :=
          ⟨by rw [List.length_map, P.len]; exact Nat.le_trans hm' (by decide), ps.map Value.ref, c, vals_refs ps, by rw [g, eacc]⟩
        have s3 := same_newZ (o := .lst (ps.map V.ref)) F'.1
        refine ⟨.ref h'.objs.size, _, I'.take (t' := s'.toks) (it := h'.objs.size) (h' := s'.heap) (fun b o _ e => e) F' new, rfl, ?_⟩
        exact q _ ps _ (sm.trans s3) P.len (fun i x y p e1 e2 e3 => s3 _ _ (P.pr i x y p e1 e2 e3)) upd_same
end OGX
set_option Elab.async false
set_option linter.all false
set_option maxRecDepth 100000
set_option maxHeartbeats 8000000
namespace OG
open PySem PySem.Spec PyProof.Rows L2 OGX
theorem un65 {k : Nat} {A : Around} (r : Room k A) : A.units + 65 < cLine := by
  have := r.un
  omega
theorem filterMap_mapL {α β : Type} (f : α → β) (g : Nat → Option α) : ∀ ks : List Nat, ks.filterMap (fun k => (g k).map f) = (ks.filterMap g).map f
  | [] => rfl
  | k :: ks => by
    rw [List.filterMap_cons, List.filterMap_cons, filterMap_mapL f g ks]
    cases g k <;> rfl
theorem stepA_map {α β : Type} (f : α → β) (l : List α) (c : Nat) : stepA (l.map f) c = (stepA l c).map f := by
  unfold stepA
  rw [List.length_map, ← filterMap_mapL]
  rw [show (fun k => (l.map f)[c + 2 * k]?) = fun k => (l[c + 2 * k]?).map f from funext fun k => List.getElem?_map ..]
theorem stepA_mem {α : Type} {l : List α} {c : Nat} {x : α} (h : x ∈ stepA l c) : x ∈ l := by
  unfold stepA at h
  obtain ⟨k, _, e⟩ := List.mem_filterMap.mp h
  exact List.mem_of_getElem? e
def facO : Option Fac → PyData
  | none => .none
  | some f => facD f
def FacAt (H : Hp) (o : Option Fac) (v : V) : Prop := match o with
  | none => v = .non
  | some f => ∃ a, v = .ref a ∧ H a = some (.tup [.int f.1, .int f.2])
theorem FacAt.ext {H H' : Hp} {o : Option Fac} {v : V} (h : FacAt H o v) (s : Same H H') : FacAt H' o v := by
  cases o with
  | none => exact h
  | some f =>
    obtain ⟨a, e, g⟩ := h
    exact ⟨a, e, s _ _ g⟩
theorem facO_td {K : PySem.W.Frag} {H : Hp} : ∀ {ys : List V} {os : List (Option Fac)}, ys.length = os.length → (∀ (j : Nat) (y : V) (o : Option Fac), ys[j]? = some y → os[j]? = some o → FacAt H o y) → TdAll K H ys (os.map facO)
  | [], [], _, _ => .nil
  | [], f :: r, h, _ => by cases h
  | a :: r, [], h, _ => by cases h
  | y :: r, o :: os, h, g => by
    refine .cons ?_ (facO_td (Nat.succ.inj h) fun j b e h1 h2 => g (j + 1) b e h1 h2)
    have g0 : FacAt H o y := g 0 y o rfl rfl
    cases o with
    | none =>
      cases show y = .non from g0
      exact .non
    | some f =>
      obtain ⟨a, rfl, ga⟩ := g0
      exact .tup (SqT.of ga) (.cons (.int _) (.cons (.int _) .nil))
theorem facO_shaped (os : List (Option Fac)) : SeqAt.shaped (.list (os.map facO)) = true := by
  have h1 : PyData.canLayAll0 (os.map facO) = true := lay_all fun d hd => by
    obtain ⟨o, _, rfl⟩ := List.mem_map.mp hd
    cases o <;> simp [facO, facD, PyData.canLay0, PyData.canLayAll0]
  have h2 : PyData.depthAll (os.map facO) ≤ 1 := dep_all fun d hd => by
    obtain ⟨o, _, rfl⟩ := List.mem_map.mp hd
    cases o <;> simp [facO, facD, PyData.depth, PyData.depthAll]
  unfold SeqAt.shaped
  rw [Bool.and_eq_true]
  refine ⟨by simp only [PyData.canLay0]; exact h1, decide_eq_true ?_⟩
  simp only [PyData.depth]
  omega
theorem facO_none : ∀ os : List (Option Fac), ((os.map facO).any fun z => PyData.eqv z .none) = os.any (·.isNone)
  | [] => rfl
  | o :: r => by
    rw [List.map_cons, List.any_cons, List.any_cons, facO_none r]
    cases o <;> simp [facO, facD, PyData.eqv]
theorem shaped_none : SeqAt.shaped .none = true := by
  simp [SeqAt.shaped, PyData.canLay0, PyData.depth]
theorem allR_any {α β : Type} {f : α → Option β} {xs : List α} : (xs.map f).any (·.isNone) = true ↔ allR f xs = none := by
  rw [allR_none, List.any_eq_true]
  constructor
  · rintro ⟨o, ho, e⟩
    obtain ⟨x, hx, rfl⟩ := List.mem_map.mp ho
    exact ⟨x, hx, Option.isNone_iff_eq_none.mp e⟩
  · rintro ⟨x, hx, e⟩
    exact ⟨_, List.mem_map.mpr ⟨x, hx, rfl⟩, by rw [e]; rfl⟩
theorem fac_refs {H : Hp} : ∀ {ys : List V} {os : List (Option Fac)} {fs : List Fac}, ys.length = os.length → os = fs.map some → (∀ (j : Nat) (y : V) (o : Option Fac), ys[j]? = some y → os[j]? = some o → FacAt H o y) →
    ∃ as : List Addr, ys = as.map V.ref ∧ as.length = fs.length ∧ ∀ (j : Nat) (a : Addr) (f : Fac), as[j]? = some a → fs[j]? = some f → H a = some (.tup [.int f.1, .int f.2])
  | [], os, [], _, _, _ => ⟨[], rfl, rfl, fun j a f h => by simp at h⟩
  | [], os, f :: fs, h, e, _ => by
    subst e
    cases h
  | y :: ys, os, [], h, e, _ => by
    subst e
    cases h
  | y :: ys, os, f :: fs, h, e, g => by
    subst e
    obtain ⟨as, e1, e2, e3⟩ := fac_refs (fs := fs) (os := fs.map some) (Nat.succ.inj h) rfl fun j b o h1 h2 => g (j + 1) b o h1 h2
    obtain ⟨a, ea, ga⟩ : FacAt H (some f) y := g 0 y (some f) rfl rfl
    subst ea
    subst e1
    refine ⟨a :: as, rfl, by rw [List.length_cons, List.length_cons, e2], fun j b k h1 h2 => ?_⟩
    cases j with
    | zero =>
      cases h1
      cases h2
      exact ga
    | succ j => exact e3 j b k h1 h2
theorem allR_map {α β : Type} {f : α → Option β} : ∀ {xs : List α} {ys : List β}, allR f xs = some ys → xs.map f = ys.map some
  | [], ys, h => by
    cases h
    rfl
  | x :: r, ys, h => by
    unfold allR at h
    cases e1 : f x with
    | none => rw [e1] at h; cases h
    | some y =>
      cases e2 : allR f r with
      | none => rw [e1, e2] at h; cases h
      | some zs =>
        rw [e1, e2] at h
        cases h
        rw [List.map_cons, List.map_cons, e1, allR_map e2]
theorem addR_no {kn : Kn} {t : List Str} (h : ∀ fs, allR facR (stepA t 0) = some fs → ¬ (fs.length = (stepA t 1).length ∧ kinR kn (stepA t 1) = true)) : addR kn t = none := by
  unfold addR
  split
  · rename_i fs e
    rw [if_neg (h fs e)]
  · rfl
section
variable {P : Program} {w : World} {K : PySem.W.Frag} {mg : Str → Option Value} {base : Heap}
theorem parts_td {as ps : List Addr} {fs : List (Fac × Str)} {H' : Hp} (h1 : as.length = fs.length) (h2 : ps.length = fs.length) (h3 : ∀ (j : Nat) (a : Addr) (f : Fac × Str), as[j]? = some a → fs[j]? = some f → H' a = some (.tup [.int f.1.1, .int f.1.2]))
    (h4 : ∀ (i : Nat) (b : Addr) (f : Fac × Str) (p : Addr), as[i]? = some b → fs[i]? = some f → ps[i]? = some p → H' p = some (.tup [.ref b, .str f.2])) : TdAll K H' (ps.map V.ref) (fs.map fun f => .tuple [facD f.1, .str f.2]) := by
  induction fs generalizing as ps with
  | nil =>
    cases ps with
    | nil => exact .nil
    | cons p r => cases h2
  | cons f r ih =>
    cases as with
    | nil => cases h1
    | cons b as =>
      cases ps with
      | nil => cases h2
      | cons p ps =>
        refine .cons (.tup (SqT.of (h4 0 b f p rfl rfl rfl)) (.cons (.tup (SqT.of (h3 0 b f rfl rfl)) (.cons (.int _) (.cons (.int _) .nil))) (.cons (.str _) .nil))) ?_
        exact ih (Nat.succ.inj h1) (Nat.succ.inj h2) (fun j a g e1 e2 => h3 (j + 1) a g e1 e2) fun j a g p e1 e2 e3 => h4 (j + 1) a g p e1 e2 e3
theorem ok_read_add (T : Txt K mg) : FnOk P w K mg base CX0 5 T.f_read_add T.fd_read_add ["words", "gates"] (spRdG K addR) := by
  refine T.F_read_add.ok sc_read_add (fun vs H Q E h => ?_) (fun cdv A outer s H vs Q E hr h => ?_)
  · obtain ⟨l, kd, kn, kvs, f, rfl, _⟩ := h
    rfl
  · obtain ⟨l, kd, kn, kvs, ws, rfl, gk, hkn, hko, hL, wo, qn, qs⟩ := h
    refine ⟨_, (pss_cons (ps_setLc (i := 2) (own := [("word", 5)]) (g := gName 5) (by rfl) sc_read_add.nd rfl rfl (sw_true rfl rfl rfl (by decide +kernel)) (pi_list (OGX.pe_stepL (c := 0) (pv 0))) (blkOk_by (own := [("word", 5)]) (by rfl)) (fun _ _ _ _ _ => (pg_name (i := 5) sc_read_add.nd rfl (Or.inl rfl))) (fun _ _ _ _ _ => pts_nil) (fun _ _ _ _ _ => (pe_call (ok_factor_of T) (hr.mono (by decide)) (by rfl) T.g_factor_of T.F_factor_of.kp T.b_factor_of .nil pass0 (pa_cons (pv 5) pa_nil))))
  (pss_cons (ps_set (i := 3) sc_read_add.nd rfl (Or.inl rfl) (OGX.pe_stepL (c := 1) (pv 0)))
  (pss_cons (ps_if (PW.pt (pw_or (pt_not (pt_truth (pv 3) (by intro _; rfl))) (pw_or (pt_cmpR op_ne (pe_callB call_len_seq (by rfl) T.n_len PySem.boot_len (pa_cons (pv 2) pa_nil)) (pe_callB call_len_seq (by rfl) T.n_len PySem.boot_len (pa_cons (pv 3) pa_nil)) (nomark _)) (pw_or1 (pt_cmpR (op_inD (un65 hr)) pe_non (pv 2) rfl))))) (pss_one (ps_ret pe_non)) pss_nil)
  (pss_cons (ps_if (pt_not (pt_val (pe_callB (cr_all rfl) (by rfl) T.n_all (by decide +kernel) (pa_cons (pe_lc (own := [("name", 6)]) (g := gName 6) (by rfl) sc_read_add.nd (pi_list (pv 3)) (blkOk_by (own := [("name", 6)]) (by rfl)) (fun _ _ _ _ _ => (pg_name (i := 6) sc_read_add.nd rfl (Or.inl rfl))) (fun _ _ _ _ _ => pts_nil) (fun _ _ _ _ _ => (pe_cmp (pc_din (hu_of hr) (pv 6) (pv 1)) rfl))) pa_nil)))) (pss_one (ps_ret pe_non)) pss_nil)
  (pss_cons (ps_set (i := 4) sc_read_add.nd rfl (Or.inr rfl) (pe_dget (hu_of hr) (pv 1) (pe_ix ix_list (pv 3) pe_int (fun _ _ => rfl)) (fun _ _ => rfl)))
  (pss_cons (ps_if (pt_not (pt_val (pe_callB (cr_all rfl) (by rfl) T.n_all (by decide +kernel) (pa_cons (pe_lc (own := [("name", 6)]) (g := gName 6) (by rfl) sc_read_add.nd (pi_list (pv 3)) (blkOk_by (own := [("name", 6)]) (by rfl)) (fun _ _ _ _ _ => (pg_name (i := 6) sc_read_add.nd rfl (Or.inl rfl))) (fun _ _ _ _ _ => pts_nil) (fun _ _ _ _ _ => (pe_cmpR (op_eqDK K hr.units) (pe_dget (hu_of hr) (pv 1) (pv 6) (fun _ _ => rfl)) (pv 4) (nomark _)))) pa_nil)))) (pss_one (ps_ret pe_non)) pss_nil)
  (pss_one (ps_ret (pe_tup (pa_cons pe_str (pa_cons (OGX.pe_tupZip rfl (by rfl) T.n_tuple (by rfl) T.n_zip (pa_cons (pv 2) (pa_cons (pv 3) pa_nil))) (pa_cons (pv 4) pa_nil)))))))))))), ?_⟩
    have wide : ∀ {n : Nat}, n ≤ 1000 → n ≤ sizeLine := fun h => Nat.le_trans h (by decide)
    have wl : (ws.map V.str).length ≤ 10000 := by
      rw [List.length_map]
      have := wo.len
      omega
    refine ⟨_, rfl, l, _, rfl, hL, wl, fun p0 hp0 => ?_⟩
    rw [stepA_map]
    obtain ⟨es, ees⟩ : ∃ es, es = stepA ws 0 := ⟨_, rfl⟩
    obtain ⟨ns, ens⟩ : ∃ ns, ns = stepA ws 1 := ⟨_, rfl⟩
    have tx : ∀ z ∈ es, TxOk 5000000 z := fun z hz => wo.tx z (stepA_mem (ees ▸ hz))
    have len0 : es.length ≤ 4001 := by
      have := stepA_len ws 0
      have := wo.len
      rw [ees]
      omega
    have len1 : ns.length ≤ 4001 := by
      have := stepA_len ws 1
      have := wo.len
      rw [ens]
      omega
    unfold addR at qs
    have qn := fun h => qn (addR_no (kn := kn) (t := ws) h)
    rw [← ees, ← ens] at qn qs
    rw [← ees]
    have s0 := same_new (o := .lst (es.map V.str)) hp0
    have g0 : (upd H p0 (.lst (es.map V.str))) p0 = some (.lst (es.map V.str)) := upd_same
    generalize upd H p0 (.lst (es.map V.str)) = H0 at *
    refine ⟨p0, rfl, ⟨_, SqL.of g0⟩, fun D hD => ?_⟩
    refine lc_list (K := K) (a := p0) (xs := es.map V.str) (fun i H' => Same H0 H' ∧ ∃ ys : List V, H' D = some (.lst ys) ∧ ys.length = i ∧ ∀ (j : Nat) (y : V) (z : Str), ys[j]? = some y → es[j]? = some z → FacAt H' (facR z) y)
      ⟨same_new hD, [], upd_same, rfl, fun j a f h => by simp at h⟩ (fun i H' _ ⟨s, _⟩ => SqL.of (s _ _ g0)) ?_ ?_
    · rintro i x H' hx ⟨s, ys, gD, hl, ha⟩
      obtain ⟨z, hz, rfl⟩ := str_at hx
      have hi := (List.getElem?_eq_some_iff.mp hz).1
      refine ⟨rfl, ?_⟩
      have nxt : ∀ (y : V) (H2 : Hp), Same H' H2 → FacAt H2 (facR z) y → ∃ acc, H2 D = some (.lst acc) ∧ acc.length < sizeLine ∧ (Same H0 (upd H2 D (.lst (acc ++ [y]))) ∧ ∃ ys : List V, (upd H2 D (.lst (acc ++ [y]))) D = some (.lst ys) ∧ ys.length = i + 1 ∧ ∀ (j : Nat) (y' : V) (z : Str), ys[j]? = some y' → es[j]? = some z → FacAt (upd H2 D (.lst (acc ++ [y]))) (facR z) y') := fun y H2 s2 hy => by
        have keep : ∀ {o : Option Fac} {v : V}, FacAt H2 o v → FacAt (upd H2 D (.lst (ys ++ [y]))) o v := fun {o v} h => by
          cases o with
          | none => exact h
          | some f =>
            obtain ⟨a, e, g⟩ := h
            refine ⟨a, e, ?_⟩
            rw [upd_ne (fun e => by
              rw [e, s2 _ _ gD] at g
              cases g)]
            exact g
        refine ⟨_, s2 _ _ gD, ?_, fun b u hu => ?_, ys ++ [y], upd_same, by rw [List.length_append, hl]; rfl, fun j b g hj hg => ?_⟩
        · rw [hl]
          exact Nat.lt_of_le_of_lt (show i ≤ 4001 by omega) (by decide)
        · rw [upd_ne (ne_of_none hu hD)]
          exact s2 _ _ (s _ _ hu)
        · by_cases e : j < ys.length
          · rw [List.getElem?_append_left e] at hj
            exact keep ((ha j b g hj hg).ext s2)
          · rw [List.getElem?_append_right (by omega)] at hj
            have e0 : j - ys.length = 0 := by
              have := (List.getElem?_eq_some_iff.mp hj).1
              simp at this
              omega
            rw [e0] at hj
            cases Option.some.inj hj
            have ej : j = i := by omega
            rw [ej, hz] at hg
            cases Option.some.inj hg
            exact keep hy
      refine ⟨_, rfl, z, rfl, (tx z (List.mem_of_getElem? hz)).len, fun e H2 s2 => ?_, fun f a H2 e s2 ga => ?_⟩
      · exact nxt _ _ s2 (by rw [e]; rfl)
      · exact nxt _ _ s2 (by rw [e]; exact ⟨a, rfl, ga⟩)
    rintro H1 ⟨s1, ys, gD, hal, ha⟩
    rw [List.length_map] at hal
    have s01 := s0.trans s1
    refine ⟨_, rfl, l, _, rfl, SqL.ext hL s01, wl, fun p1 hp1 => ?_⟩
    rw [stepA_map, ← ens]
    have s2 := s01.trans (same_new (o := .lst (ns.map V.str)) hp1)
    have g1 : (upd H1 p1 (.lst (ns.map V.str))) p1 = some (.lst (ns.map V.str)) := upd_same
    have gD2 := same_new (o := .lst (ns.map V.str)) hp1 _ _ gD
    have ha2 : ∀ (j : Nat) (y : V) (o : Option Fac), ys[j]? = some y → (es.map facR)[j]? = some o → FacAt (upd H1 p1 (.lst (ns.map V.str))) o y := fun j y o h1 h2 => by
      rw [List.getElem?_map] at h2
      cases e : es[j]? with
      | none =>
        rw [e] at h2
        cases h2
      | some z =>
        rw [e] at h2
        cases Option.some.inj h2
        exact (ha j y z h1 e).ext (same_new hp1)
    generalize upd H1 p1 (.lst (ns.map V.str)) = H2 at *
    have tdl : TdAll K H2 ys ((es.map facR).map facO) := facO_td (by rw [List.length_map, hal]) ha2
    by_cases n0 : ns = []
    · refine ⟨_, rfl, false, .inl ⟨_, SqL.of g1, by rw [n0]; rfl⟩, ?_⟩
      refine iteT ?_
      refine iteT' rfl ?_
      exact qn (fun fs _ z => by rw [n0] at z; cases z.2) _ s2
    have nf : true = !(ns.map V.str).isEmpty := by
      cases ns with
      | nil => exact absurd rfl n0
      | cons f r => rfl
    refine ⟨_, rfl, true, .inl ⟨_, SqL.of g1, nf⟩, ?_⟩
    refine iteF ?_
    refine ⟨_, rfl, D, _, rfl, .inl (SqL.of gD2), _, rfl, p1, _, rfl, .inl (SqL.of g1), rfl, _, rfl, ?_⟩
    by_cases le : es.length = ns.length
    case neg =>
      refine iteT' (by rw [List.length_map, hal, vint_ne (show ((es.length : Nat) : Int) ≠ (ns.length : Int) by omega)]; rfl) ?_
      refine iteT' rfl ?_
      refine qn (fun fs e z => le ?_) _ s2
      rw [← (allR_some e).1]
      exact z.1
    rw [List.length_map, hal, decide_eq_true (show V.int (es.length : Int) = V.int (ns.length : Int) by rw [le])]
    refine iteF ?_
    refine ⟨_, rfl, .none, (es.map facR).map facO, .non, .lst (SqL.of gD2) tdl.dp, shaped_none, facO_shaped _, _, rfl, ?_⟩
    rw [facO_none]
    cases ea : allR facR es with
    | none =>
      refine iteT' (allR_any.mpr ea) ?_
      exact qn (fun fs e _ => by rw [ea] at e; cases e) _ s2
    | some fs =>
    refine iteF' (fun z => by rw [allR_any.mp z] at ea; cases ea) ?_
    rw [ea] at qs qn
    have qn : ¬ (kinR kn ns = true) → ∀ H', Same H H' → Q .non H' := fun h => qn (fun fs' e z => by
      cases e
      exact h z.2)
    have el : fs.length = ns.length := ((allR_some ea).1).trans le
    have nl : (ns.map V.str).length ≤ 10000000 := by
      rw [List.length_map]
      omega
    refine ⟨_, rfl, p1, rfl, ⟨_, SqL.of g1⟩, fun D3 hD3 => ?_⟩
    refine lc_mapLV (K := K) (a := p1) (xs := ns.map V.str) ((ns.map fun z => (glk kn z).isSome).map V.bl) (by rw [List.length_map, List.length_map, List.length_map]) nl hD3 (SqL.of g1) (fun _ => rfl) (fun z H' Q kk => kk) (fun i x y H' Q hx hy s3 kk => ?_) (fun H3 s3 g3 => ?_)
    · obtain ⟨z, hz, rfl⟩ := str_at hx
      rw [List.getElem?_map, List.getElem?_map, hz] at hy
      cases Option.some.inj hy
      have gk3 := s3 _ _ (s2 _ _ gk)
      dsimp only at kk
      cases eg : glk kn z with
      | none =>
        rw [eg] at kk
        exact ⟨_, rfl, _, rfl, kd, none, rfl, .inl ⟨kvs, .inr z, .inl gk3, rfl, (hkn.no eg).symm⟩, kk _ (Same.refl _)⟩
      | some gs =>
        rw [eg] at kk
        obtain ⟨v, v1, _⟩ := hkn.get eg
        exact ⟨_, rfl, _, rfl, kd, some v, rfl, .inl ⟨kvs, .inr z, .inl gk3, rfl, v1.symm⟩, kk _ (Same.refl _)⟩
    refine ⟨D3, _, rfl, SqL.of g3, _, rfl, ?_⟩
    obtain ⟨n1, nr, en⟩ : ∃ n1 nr, ns = n1 :: nr := by
      cases ns with
      | nil => exact absurd rfl n0
      | cons a r => exact ⟨a, r, rfl⟩
    by_cases al : ∀ n ∈ ns, (glk kn n).isSome = true
    case neg =>
      have : ((ns.map fun z => (glk kn z).isSome).all id) = false := by
        rw [Bool.eq_false_iff, ne_eq, List.all_eq_true]
        intro h
        exact al fun n hn => h _ (List.mem_map.mpr ⟨n, hn, rfl⟩)
      rw [this]
      refine iteT ?_
      refine qn (fun z => al ?_) _ (s2.trans s3)
      obtain ⟨a, r, gs, e1, e2⟩ := kinR_at z
      exact fun n hn => by rw [e2 n hn]; rfl
    have : ((ns.map fun z => (glk kn z).isSome).all id) = true := by
      rw [List.all_eq_true]
      intro b hb
      obtain ⟨n, hn, rfl⟩ := List.mem_map.mp hb
      exact al n hn
    rw [this]
    refine iteF ?_
    have get : ∀ {n : Str} {H' : Hp}, Same H2 H' → n ∈ ns → ∃ v gs, glk kn n = some gs ∧ DGet H' kd (.str n) (some v) ∧ Td K H' v (gsD gs) := fun s hn => by
      obtain ⟨gs, eg⟩ := some_of (al _ hn)
      obtain ⟨v, v1, v2⟩ := hkn.get eg
      exact ⟨v, gs, eg, .inl ⟨kvs, .inr _, .inl (s _ _ (s2 _ _ gk)), rfl, v1.symm⟩, v2.mv (Same.tk (s2.trans s))⟩
    have h0 : n1 ∈ ns := by
      rw [en]
      exact List.mem_cons_self
    obtain ⟨v0, gs0, eg0, v01, v02⟩ := get s3 h0
    have a0 : (ns.map V.str)[0]? = some (.str n1) := by
      rw [en]
      rfl
    refine ⟨_, rfl, _, rfl, p1, _, 0, .str n1, rfl, rfl, SqL.of (s3 _ _ g1), atI_nat (j := 0) a0, kd, v0, rfl, v01, ?_⟩
    refine ⟨_, rfl, p1, rfl, ⟨_, SqL.of (s3 _ _ g1)⟩, fun D4 hD4 => ?_⟩
    refine lc_mapLV (K := K) (a := p1) (xs := ns.map V.str) ((ns.map fun z => decide (glk kn z = glk kn n1)).map V.bl) (by rw [List.length_map, List.length_map, List.length_map]) nl hD4 (SqL.of (s3 _ _ g1)) (fun _ => rfl) (fun z H' Q kk => kk) (fun i x y H' Q hx hy s4 kk => ?_) (fun H4 s4 g4 => ?_)
    · obtain ⟨z, hz, rfl⟩ := str_at hx
      rw [List.getElem?_map, List.getElem?_map, hz] at hy
      cases Option.some.inj hy
      obtain ⟨v, gs, eg, v1, v2⟩ := get (s3.trans s4) (List.mem_of_getElem? hz)
      have rg : SeqAt.shaped (gsD gs) = true := shaped_ints gs
      refine ⟨_, rfl, _, rfl, kd, v, rfl, v1, _, rfl, gsD gs, gsD gs0, v2.dp, (v02.mv (Same.tk s4)).dp, rg, shaped_ints gs0, ?_⟩
      rw [eqv_gs]
      have ee : decide (gs = gs0) = decide (glk kn z = glk kn n1) := by
        rw [eg, eg0]
        exact decide_eq_decide.mpr ⟨fun h => by rw [h], fun h => Option.some.inj h⟩
      rw [ee]
      exact kk _ (Same.refl _)
    refine ⟨D4, _, rfl, SqL.of g4, _, rfl, ?_⟩
    by_cases ae : ∀ n ∈ ns, glk kn n = glk kn n1
    case neg =>
      have : ((ns.map fun z => decide (glk kn z = glk kn n1)).all id) = false := by
        rw [Bool.eq_false_iff, ne_eq, List.all_eq_true]
        intro h
        exact ae fun n hn => of_decide_eq_true (h _ (List.mem_map.mpr ⟨n, hn, rfl⟩))
      rw [this]
      refine iteT ?_
      refine qn (fun z => ae ?_) _ ((s2.trans s3).trans s4)
      obtain ⟨a, r, gs, e1, e2⟩ := kinR_at z
      exact fun n hn => by rw [e2 n hn, e2 n1 h0]
    have : ((ns.map fun z => decide (glk kn z = glk kn n1)).all id) = true := by
      rw [List.all_eq_true]
      intro b hb
      obtain ⟨n, hn, rfl⟩ := List.mem_map.mp hb
      exact decide_eq_true (ae n hn)
    rw [this]
    refine iteF ?_
    have kin : kinR kn ns = true := by
      have e : kinR kn ns = ((ns.all fun n => (glk kn n).isSome) && ns.all fun n => decide (glk kn n = glk kn n1)) := by
        rw [en]
        rfl
      rw [e, Bool.and_eq_true, List.all_eq_true, List.all_eq_true]
      exact ⟨al, fun n hn => decide_eq_true (ae n hn)⟩
    dsimp only at qs
    rw [if_pos ⟨el, kin⟩] at qs
    obtain ⟨as, rfl, asl, haf⟩ := fac_refs (by rw [List.length_map, hal]) (allR_map ea) ha2
    have s24 := s3.trans s4
    refine ⟨_, rfl, _, rfl, D, p1, _, _, rfl, SqL.of (s24 _ _ gD2), SqL.of (s24 _ _ g1), ?_, ?_, fun t ps H5 s5 pl pp gt => ?_⟩
    · rw [List.length_map, List.length_map, asl, el]
    · rw [List.length_map, asl]
      omega
    refine ⟨_, rfl, wide (show 3 ≤ 1000 by decide), fun a ha' => ?_⟩
    have sa := same_new (o := .tup [.str "add", .ref t, v0]) ha'
    have s25 := (s24.trans s5).trans sa
    refine qs (.add (fs.zip ns)) a _ rfl (s2.trans s25) ?_
    rw [List.length_map] at pl
    have zl : (fs.zip ns).length = fs.length := by
      rw [List.length_zip, el, Nat.min_self]
    have za : ∀ {j : Nat} {f : Fac × Str}, (fs.zip ns)[j]? = some f → fs[j]? = some f.1 ∧ ns[j]? = some f.2 := fun {j f} h => by
      have := List.getElem?_zip_eq_some.mp h
      exact this
    refine .tup (SqT.of upd_same) (.cons (.str _) (.cons (.tup (SqT.of (sa _ _ gt)) (parts_td (by rw [zl, asl]) (by rw [zl, pl, asl]) (fun j a f h1 h2 => s25 _ _ (haf j a f.1 h1 (za h2).1)) fun i b f p h1 h2 h3 => sa _ _ (pp i (.ref b) (.str f.2) p ?_ ?_ h3))) (.cons ?_ .nil)))
    · rw [List.getElem?_map, h1]
      rfl
    · rw [List.getElem?_map, (za h2).2]
      rfl
    · show Td K _ _ (gsD ((glk kn (((fs.zip ns).map (·.2)).headD Str.empty)).getD []))
      rw [show (fs.zip ns).map (·.2) = ns from List.map_snd_zip (by omega), en]
      show Td K _ _ (gsD ((glk kn n1).getD []))
      rw [eg0]
      exact v02.mv (Same.tk ((s4.trans s5).trans sa))
end
end OG
set_option Elab.async false
set_option linter.all false
set_option maxRecDepth 100000
set_option maxHeartbeats 8000000
namespace OG
open PySem PySem.Spec PyProof.Rows L2 OGX
theorem cut1 (x : V) (r : List V) : cutV (x :: r) (some 1) none = r := by
  unfold cutV
  have e1 : HT.sIx (x :: r).length 0 (some 1) = 1 := by
    show min (1 : Int).toNat (r.length + 1) = 1
    show min 1 (r.length + 1) = 1
    omega
  have e2 : HT.sIx (x :: r).length (x :: r).length none = r.length + 1 := rfl
  rw [e1, e2]
  show r.take (r.length + 1 - 1) = r
  exact List.take_of_length_le (by omega)
theorem one_told {kn : Kn} {ws : List Str} {f : Frm} (h : oneR ws = some f) : f.told [] = f.told kn := by
  unfold oneR at h
  cases e : gatesR ws with
  | none => rw [e] at h; cases h
  | some gs =>
    rw [e] at h
    cases h
    rfl
theorem road_told {kn : Kn} {ws : List Str} {f : Frm} (h : roadR ws = some f) : f.told [] = f.told kn := by
  unfold roadR at h
  split at h
  · split at h
    · split at h
      · cases h
        rfl
      · cases h
    · cases h
  · cases h
section
variable {P : Program} {w : World} {K : PySem.W.Frag} {mg : Str → Option Value} {base : Heap}
theorem ok_read_form (T : Txt K mg) : FnOk P w K mg base CX0 6 T.f_read_form T.fd_read_form ["words", "gates"] (spRdG K formR) := by
  refine T.F_read_form.ok sc_read_form (fun vs H Q E h => ?_) (fun cdv A outer s H vs Q E hr h => ?_)
  · obtain ⟨l, kd, kn, kvs, f, rfl, _⟩ := h
    rfl
  · obtain ⟨l, kd, kn, kvs, ws, rfl, gk, hkn, hko, hL, wo, qn, qs⟩ := h
    refine ⟨_, (pss_cons (ps_set (i := 2) sc_read_form.nd rfl (Or.inl rfl) (pe_ifExp (pt_truth (pv 0) (by intro _; rfl)) (pe_ix ix_list (pv 0) pe_int (fun _ _ => rfl)) pe_str))
  (pss_cons (ps_if (pt_cmpR op_eq (pv 2) pe_str (nomark _)) (pss_one (ps_ret (pe_call (ok_read_one T) (hr.mono (by decide)) (by rfl) T.g_read_one T.F_read_one.kp T.b_read_one .nil pass0 (pa_cons (pe_slice sl_list (pv 0) (po_some pe_int) po_none) pa_nil)))) pss_nil)
  (pss_cons (ps_if (pt_cmpR op_eq (pv 2) pe_str (nomark _)) (pss_one (ps_ret (pe_call (ok_read_road T) (hr.mono (by decide)) (by rfl) T.g_read_road T.F_read_road.kp T.b_read_road .nil pass0 (pa_cons (pe_slice sl_list (pv 0) (po_some pe_int) po_none) pa_nil)))) pss_nil)
  (pss_cons (ps_if (pt_cmpR op_eq (pv 2) pe_str (nomark _)) (pss_one (ps_ret (pe_call (ok_read_close T) (hr.mono (by decide)) (by rfl) T.g_read_close T.F_read_close.kp T.b_read_close .nil pass0 (pa_cons (pe_slice sl_list (pv 0) (po_some pe_int) po_none) (pa_cons (pv 1) pa_nil))))) pss_nil)
  (pss_cons (ps_if (pt_cmpR op_eq (pv 2) pe_str (nomark _)) (pss_one (ps_ret (pe_call (ok_read_turn T) (hr.mono (by decide)) (by rfl) T.g_read_turn T.F_read_turn.kp T.b_read_turn .nil pass0 (pa_cons (pe_slice sl_list (pv 0) (po_some pe_int) po_none) (pa_cons (pv 1) pa_nil))))) pss_nil)
  (pss_cons (ps_if (pt_cmpR op_eq (pv 2) pe_str (nomark _)) (pss_one (ps_ret (pe_call (ok_read_add T) (hr.mono (by decide)) (by rfl) T.g_read_add T.F_read_add.kp T.b_read_add .nil pass0 (pa_cons (pe_slice sl_list (pv 0) (po_some pe_int) po_none) (pa_cons (pv 1) pa_nil))))) pss_nil)
  (pss_one (ps_ret (pe_call (ok_read_product T) (hr.mono (by decide)) (by rfl) T.g_read_product T.F_read_product.kp T.b_read_product .nil pass0 (pa_cons (pv 0) (pa_cons (pv 1) pa_nil))))))))))), ?_⟩
    cases ws with
    | nil =>
      refine ⟨_, rfl, false, .inl ⟨_, hL, rfl⟩, ?_⟩
      refine iteF ?_
      refine ⟨_, rfl, rfl, _, rfl, ?_⟩
      refine (show (if decide (V.str _ = V.str _) = true then _ else _) from ifS_ne (by decide +kernel) ?_)
      refine ⟨_, rfl, rfl, _, rfl, ?_⟩
      refine (show (if decide (V.str _ = V.str _) = true then _ else _) from ifS_ne (by decide +kernel) ?_)
      refine ⟨_, rfl, rfl, _, rfl, ?_⟩
      refine (show (if decide (V.str _ = V.str _) = true then _ else _) from ifS_ne (by decide +kernel) ?_)
      refine ⟨_, rfl, rfl, _, rfl, ?_⟩
      refine (show (if decide (V.str _ = V.str _) = true then _ else _) from ifS_ne (by decide +kernel) ?_)
      refine ⟨_, rfl, rfl, _, rfl, ?_⟩
      refine (show (if decide (V.str _ = V.str _) = true then _ else _) from ifS_ne (by decide +kernel) ?_)
      exact ⟨_, rfl, _, rfl, l, kd, kn, kvs, [], rfl, gk, hkn, hko, hL, wo, fun _ => qn rfl, fun f a H' e => by cases e⟩
    | cons z r =>
      have wt := wo.tail
      refine ⟨_, rfl, true, .inl ⟨_, hL, rfl⟩, ?_⟩
      refine iteT ?_
      refine ⟨_, rfl, l, _, 0, .str z, rfl, rfl, hL, atI_nat (j := 0) rfl, ?_⟩
      have cutE : cutV ((z :: r).map V.str) (some 1) none = r.map V.str := cut1 _ _
      unfold formR at qn qs
      dsimp only at qn qs
      refine ⟨_, rfl, rfl, _, rfl, ?_⟩
      by_cases e1 : z = "one"
      · rw [if_pos e1] at qn qs
        refine iteT' (decide_eq_true (congrArg V.str e1)) ?_
        refine ⟨_, rfl, _, rfl, l, _, rfl, hL, fun p hp => ?_⟩
        rw [cutE]
        exact ⟨p, r, rfl, SqL.of upd_same, wt, fun e H' s => qn e H' ((same_new hp).trans s), fun f a H' e s t => qs f a H' e ((same_new hp).trans s) (one_told (kn := kn) e ▸ t)⟩
      rw [if_neg e1] at qn qs
      refine iteF' (fun h => e1 (V.str.inj (of_decide_eq_true h))) ?_
      refine ⟨_, rfl, rfl, _, rfl, ?_⟩
      by_cases e2 : z = "road"
      · rw [if_pos e2] at qn qs
        refine iteT' (decide_eq_true (congrArg V.str e2)) ?_
        refine ⟨_, rfl, _, rfl, l, _, rfl, hL, fun p hp => ?_⟩
        rw [cutE]
        exact ⟨p, r, rfl, SqL.of upd_same, wt, fun e H' s => qn e H' ((same_new hp).trans s), fun f a H' e s t => qs f a H' e ((same_new hp).trans s) (road_told (kn := kn) e ▸ t)⟩
      rw [if_neg e2] at qn qs
      refine iteF' (fun h => e2 (V.str.inj (of_decide_eq_true h))) ?_
      refine ⟨_, rfl, rfl, _, rfl, ?_⟩
      by_cases e3 : z = "close"
      · rw [if_pos e3] at qn qs
        refine iteT' (decide_eq_true (congrArg V.str e3)) ?_
        refine ⟨_, rfl, _, rfl, l, _, rfl, hL, fun p hp => ?_⟩
        rw [cutE]
        have sp := same_new (o := .lst (r.map V.str)) hp
        exact ⟨_, rfl, p, kd, kn, kvs, r, rfl, sp _ _ gk, hkn.mv (Same.tk sp), hko, SqL.of upd_same, wt, fun e H' s => qn e H' (sp.trans s), fun f a H' e s t => qs f a H' e (sp.trans s) t⟩
      rw [if_neg e3] at qn qs
      refine iteF' (fun h => e3 (V.str.inj (of_decide_eq_true h))) ?_
      refine ⟨_, rfl, rfl, _, rfl, ?_⟩
      by_cases e4 : z = "turn"
      · rw [if_pos e4] at qn qs
        refine iteT' (decide_eq_true (congrArg V.str e4)) ?_
        refine ⟨_, rfl, _, rfl, l, _, rfl, hL, fun p hp => ?_⟩
        rw [cutE]
        have sp := same_new (o := .lst (r.map V.str)) hp
        exact ⟨_, rfl, p, kd, kn, kvs, r, rfl, sp _ _ gk, hkn.mv (Same.tk sp), hko, SqL.of upd_same, wt, fun e H' s => qn e H' (sp.trans s), fun f a H' e s t => qs f a H' e (sp.trans s) t⟩
      rw [if_neg e4] at qn qs
      refine iteF' (fun h => e4 (V.str.inj (of_decide_eq_true h))) ?_
      refine ⟨_, rfl, rfl, _, rfl, ?_⟩
      by_cases e5 : z = "add"
      · rw [if_pos e5] at qn qs
        refine iteT' (decide_eq_true (congrArg V.str e5)) ?_
        refine ⟨_, rfl, _, rfl, l, _, rfl, hL, fun p hp => ?_⟩
        rw [cutE]
        have sp := same_new (o := .lst (r.map V.str)) hp
        exact ⟨_, rfl, p, kd, kn, kvs, r, rfl, sp _ _ gk, hkn.mv (Same.tk sp), hko, SqL.of upd_same, wt, fun e H' s => qn e H' (sp.trans s), fun f a H' e s t => qs f a H' e (sp.trans s) t⟩
      rw [if_neg e5] at qn qs
      refine iteF' (fun h => e5 (V.str.inj (of_decide_eq_true h))) ?_
      exact ⟨_, rfl, _, rfl, l, kd, kn, kvs, z :: r, rfl, gk, hkn, hko, hL, wo, qn, qs⟩
end
end OG
set_option Elab.async false
set_option linter.all false
set_option maxRecDepth 100000
set_option maxHeartbeats 8000000
namespace OG
open PySem PySem.Spec PyProof.Rows L2 OGX
theorem cut12 (x : V) (r : List V) : cutV (x :: r) (some 1) (some 2) = r.take 1 := by
  unfold cutV
  have e1 : HT.sIx (x :: r).length 0 (some 1) = 1 := by
    show min 1 (r.length + 1) = 1
    omega
  have e2 : HT.sIx (x :: r).length (x :: r).length (some 2) = min 2 (r.length + 1) := rfl
  rw [e1, e2]
  show r.take (min 2 (r.length + 1) - 1) = r.take 1
  cases r with
  | nil => rfl
  | cons y r => rw [show min 2 ((y :: r).length + 1) - 1 = 1 by rw [List.length_cons]; omega]
theorem cut2 (x : V) (r : List V) : cutV (x :: r) (some 2) none = r.drop 1 := by
  unfold cutV
  cases r with
  | nil =>
    have e1 : HT.sIx [x].length 0 (some 2) = 1 := rfl
    have e2 : HT.sIx [x].length [x].length none = 1 := rfl
    rw [e1, e2]
    rfl
  | cons y r =>
    have e1 : HT.sIx (x :: y :: r).length 0 (some 2) = 2 := by
      show min 2 (r.length + 1 + 1) = 2
      omega
    have e2 : HT.sIx (x :: y :: r).length (x :: y :: r).length none = r.length + 1 + 1 := rfl
    rw [e1, e2]
    show r.take (r.length + 1 + 1 - 2) = r
    exact List.take_of_length_le (by omega)
/-- a row that can be read -/
structure RowOk (row : Str) : Prop where
  tx : TxOk 5000000 row
  ws : (Txt.split row " ").length ≤ 4000
def Ln.told (kn : Kn) (l : Ln) : PyData := .tuple [.str l.nm, .str l.fm.word, .tuple l.fm.partsL, gsD (l.fm.gates kn)]
theorem lineR_1 {kn : Kn} {row nm : Str} {r : List Str} (e : Txt.split row " " = nm :: r) (h : ¬ (lnmB nm = true ∧ glk kn nm = none ∧ r.take 1 = [("=" : Str)])) : lineR kn row = none := by
  unfold lineR
  rw [e]
  cases r with
  | nil => rfl
  | cons y r => exact if_neg fun z => h ⟨z.1, z.2.1, by rw [z.2.2]; rfl⟩
theorem lineR_2 {kn : Kn} {row nm : Str} {r : List Str} (e : Txt.split row " " = nm :: r) (h1 : lnmB nm = true) (h2 : glk kn nm = none) (h3 : r.take 1 = [("=" : Str)]) : lineR kn row = (formR kn (r.drop 1)).map (Ln.mk nm) := by
  unfold lineR
  rw [e]
  cases r with
  | nil => cases h3
  | cons y r => exact if_pos ⟨h1, h2, by cases h3; rfl⟩
section
variable {P : Program} {w : World} {K : PySem.W.Frag} {mg : Str → Option Value} {base : Heap}
def spRdLine (K : PySem.W.Frag) : Sp := fun vs H Q _ => ∃ (kd : Addr) (kn : Kn) (kvs : List (Key × V)) (row : Str), vs = [.str row, .ref kd] ∧ H kd = some (.dK kvs) ∧ KnD K H kvs kn ∧ KnOk kn ∧ RowOk row ∧ (lineR kn row = none → ∀ H', Same H H' → Q .non H') ∧
  ∀ (l : Ln) (a : Addr) (H' : Hp), lineR kn row = some l → Same H H' → Td K H' (.ref a) (l.told kn) → Q (.ref a) H'
theorem ok_read_line (T : Txt K mg) : FnOk P w K mg base CX0 7 T.f_read_line T.fd_read_line ["text", "gates"] (spRdLine K) := by
  refine T.F_read_line.ok sc_read_line (fun vs H Q E h => ?_) (fun cdv A outer s H vs Q E hr h => ?_)
  · obtain ⟨kd, kn, kvs, l, rfl, _⟩ := h
    rfl
  · obtain ⟨kd, kn, kvs, row, rfl, gk, hkn, hko, ro, qn, qs⟩ := h
    refine ⟨_, (pss_cons (ps_set (i := 2) sc_read_line.nd rfl (Or.inl rfl) (pe_split (pv 0) pe_str))
  (pss_cons (ps_set (i := 3) sc_read_line.nd rfl (Or.inl rfl) (pe_ix ix_list (pv 2) pe_int (fun _ _ => rfl)))
  (pss_cons (ps_if (PW.pt (pw_or (pt_not (pt_val (pe_call (ok_is_line_name T) (hr.mono (by decide)) (by rfl) T.g_is_line_name T.F_is_line_name.kp T.b_is_line_name .nil pass0 (pa_cons (pv 3) pa_nil)))) (pw_or (pt_cmp (pc_din (hu_of hr) (pv 3) (pv 1))) (pw_or1 (pt_cmpR (op_neD hr.units) (pe_slice sl_list (pv 2) (po_some pe_int) (po_some pe_int)) (pe_lst (pa_cons pe_str pa_nil)) (nomark _)))))) (pss_one (ps_ret pe_non)) pss_nil)
  (pss_cons (ps_set (i := 4) sc_read_line.nd rfl (Or.inl rfl) (pe_call (ok_read_form T) (hr.mono (by decide)) (by rfl) T.g_read_form T.F_read_form.kp T.b_read_form .nil pass0 (pa_cons (pe_slice sl_list (pv 2) (po_some pe_int) po_none) (pa_cons (pv 1) pa_nil))))
  (pss_cons (ps_if (pt_cmpR op_isN (pv 4) pe_non (nomark _)) (pss_one (ps_ret pe_non)) pss_nil)
  (pss_cons (ps_asg (pv 4) (pg_tup (by rfl) (pgs_cons (pg_name (i := 5) sc_read_line.nd rfl (Or.inl rfl)) (pgs_cons (pg_name (i := 6) sc_read_line.nd rfl (Or.inl rfl)) (pgs_cons (pg_name (i := 7) sc_read_line.nd rfl (Or.inl rfl)) pgs_nil)))))
  (pss_one (ps_ret (pe_tup (pa_cons (pv 3) (pa_cons (pv 5) (pa_cons (pv 6) (pa_cons (pv 7) pa_nil))))))))))))), ?_⟩
    have wide : ∀ {n : Nat}, n ≤ 10000000 → n ≤ sizeLine := fun h => Nat.le_trans h (by decide)
    have rl := ro.tx.len
    refine ⟨_, rfl, ⟨_, rfl⟩, row, " ", rfl, rfl, rfl, wide (by omega), fun p hp => ?_⟩
    obtain ⟨n0, _, wt⟩ := ro.tx.split (y := " ") rfl (by decide +kernel)
    have w4 := ro.ws
    obtain ⟨nm, r, er⟩ : ∃ nm r, Txt.split row " " = nm :: r := by
      cases e : Txt.split row " " with
      | nil => exact absurd e n0
      | cons a r => exact ⟨a, r, rfl⟩
    rw [er] at wt w4 ⊢
    have w4 : r.length + 1 ≤ 4000 := w4
    have s0 := same_new (o := .lst ((nm :: r).map V.str)) hp
    have g0 : (upd H p (.lst ((nm :: r).map V.str))) p = some (.lst ((nm :: r).map V.str)) := upd_same
    generalize upd H p (.lst ((nm :: r).map V.str)) = H0 at *
    refine ⟨_, rfl, p, _, 0, .str nm, rfl, rfl, SqL.of g0, atI_nat (j := 0) rfl, ?_⟩
    refine ⟨_, rfl, nm, rfl, (wt nm List.mem_cons_self).len, fun H1 s1 => ?_⟩
    have s01 := s0.trans s1
    refine ⟨_, rfl, ?_⟩
    cases e1 : lnmB nm with
    | false =>
      refine iteT ?_
      refine iteT' rfl ?_
      exact qn (lineR_1 er fun z => by rw [e1] at z; cases z.1) _ s01
    | true =>
    refine iteF ?_
    cases e2 : glk kn nm with
    | some gs =>
      obtain ⟨v, v1, _⟩ := hkn.get e2
      refine ⟨_, rfl, _, rfl, kd, some v, rfl, .inl ⟨kvs, .inr nm, .inl (s01 _ _ gk), rfl, v1.symm⟩, _, rfl, ?_⟩
      refine iteT' rfl ?_
      refine iteT' rfl ?_
      exact qn (lineR_1 er fun z => by rw [e2] at z; cases z.2.1) _ s01
    | none =>
    refine ⟨_, rfl, _, rfl, kd, none, rfl, .inl ⟨kvs, .inr nm, .inl (s01 _ _ gk), rfl, (hkn.no e2).symm⟩, _, rfl, ?_⟩
    refine iteF ?_
    refine ⟨_, rfl, _, rfl, _, rfl, p, _, rfl, SqL.of (s1 _ _ g0), fun p1 hp1 => ?_⟩
    rw [show cutV ((nm :: r).map V.str) (some 1) (some 2) = (r.take 1).map V.str from (cut12 _ _).trans (List.map_take ..).symm]
    have s2 := s1.trans (same_new (o := .lst ((r.take 1).map V.str)) hp1)
    have g1 : (upd H1 p1 (.lst ((r.take 1).map V.str))) p1 = some (.lst ((r.take 1).map V.str)) := upd_same
    generalize upd H1 p1 (.lst ((r.take 1).map V.str)) = H2 at *
    refine ⟨wide (show 1 ≤ 10000000 by decide), fun p2 hp2 => ?_⟩
    have s3 := s2.trans (same_new (o := .lst [.str "="]) hp2)
    have okE : ∀ z ∈ [("=" : Str)], PyData.strOk z = true := by
      intro z hz
      rw [List.mem_singleton.mp hz]
      decide +kernel
    have okT : ∀ z ∈ r.take 1, PyData.strOk z = true := fun z hz => (wt z (List.mem_cons_of_mem _ (List.mem_of_mem_take hz))).ok
    have tds : ∀ {H : Hp} (l : List Str), TdAll K H (l.map V.str) (l.map PyData.str) := fun l => by
      induction l with
      | nil => exact .nil
      | cons a r ih => exact .cons (.str _) ih
    refine ⟨.list ((r.take 1).map PyData.str), .list ([("=" : Str)].map PyData.str), .lst (SqL.of (same_new hp2 _ _ g1)) (tds _).dp, .lst (SqL.of upd_same) (tds [("=" : Str)]).dp, shaped_strs okT, shaped_strs okE, _, rfl, ?_⟩
    have ee : PyData.eqv (.list ((r.take 1).map PyData.str)) (.list ([("=" : Str)].map PyData.str)) = decide (r.take 1 = [("=" : Str)]) := by
      cases r with
      | nil => simp [PyData.eqv, PyData.eqvAll]
      | cons y r =>
        show PyData.eqv (.list [.str y]) (.list [.str ("=" : Str)]) = decide ([y] = [("=" : Str)])
        by_cases e : y = ("=" : Str)
        · subst e
          simp [PyData.eqv, PyData.eqvAll]
        · simp [PyData.eqv, PyData.eqvAll, e]
    rw [ee]
    generalize upd H2 p2 (.lst [.str "="]) = H3 at *
    by_cases e3 : r.take 1 = [("=" : Str)]
    case neg =>
      rw [decide_eq_false e3]
      refine iteT' rfl ?_
      exact qn (lineR_1 er fun z => e3 z.2.2) _ (s0.trans s3)
    rw [decide_eq_true e3]
    rw [lineR_2 er e1 e2 e3] at qn qs
    refine iteF' (by simp) ?_
    refine ⟨_, rfl, _, rfl, p, _, rfl, SqL.of (s3 _ _ g0), fun p3 hp3 => ?_⟩
    rw [show cutV ((nm :: r).map V.str) (some 2) none = (r.drop 1).map V.str from (cut2 _ _).trans (List.map_drop ..).symm]
    have s4 := (s0.trans s3).trans (same_new (o := .lst ((r.drop 1).map V.str)) hp3)
    have wo : WsOk (r.drop 1) := ⟨by rw [List.length_drop]; omega, fun z hz => wt z (List.mem_cons_of_mem _ (List.mem_of_mem_drop hz))⟩
    refine ⟨_, rfl, p3, kd, kn, kvs, r.drop 1, rfl, s4 _ _ gk, hkn.mv (Same.tk s4), hko, SqL.of upd_same, wo, fun e H4 s5 => ?_, fun f a H4 e s5 td => ?_⟩
    · refine ⟨_, rfl, rfl, _, rfl, ?_⟩
      refine iteT' rfl ?_
      exact qn (by rw [e]; rfl) _ (s4.trans s5)
    have s5 := s4.trans s5
    obtain ⟨_, xs, e', hT, hA⟩ := td.tupI
    cases e'
    obtain ⟨x1, r1, rfl, t1, hA⟩ := hA.consI
    obtain ⟨x2, r2, rfl, t2, hA⟩ := hA.consI
    obtain ⟨x3, r3, rfl, t3, hA⟩ := hA.consI
    cases hA.nilI
    refine ⟨_, rfl, rfl, _, rfl, ?_⟩
    refine iteF ?_
    refine ⟨_, rfl, a, _, rfl, hT, rfl, _, _, rfl, _, _, rfl, _, _, rfl, rfl, ?_⟩
    refine ⟨_, rfl, _, rfl, _, rfl, _, rfl, wide (show 4 ≤ 10000000 by decide), fun b hb => ?_⟩
    have sb := same_new (o := .tup [.str nm, x1, x2, x3]) hb
    exact qs ⟨nm, f⟩ b _ (by rw [e]; rfl) (s5.trans sb) (.tup (SqT.of upd_same) (.cons (.str _) (.cons (t1.mv (Same.tk sb)) (.cons (t2.mv (Same.tk sb)) (.cons (t3.mv (Same.tk sb)) .nil)))))
end
end OG
set_option Elab.async false
set_option linter.all false
set_option maxRecDepth 100000
set_option maxHeartbeats 8000000
namespace OG
open PySem PySem.Spec PyProof.Rows L2 OGX
/-- the class of scripts, and what is raised -/
structure TxtX (K : PySem.W.Frag) (mg : Str → Option Value) (T : Txt K mg) : Prop where
  exB : OexC K T.c_BadScript
  inB : PySem.W.findIn K (.ref T.c_BadScript) "__init__" = some (some (.ref T.f_GateError_init))
  tyI : PySem.W.typeIn K (.ref T.f_GateError_init) = some (.type "function")
  noV : PySem.W.findIn K (.ref T.c_BadScript) "value" = some none
  xf : XfC K T.c_BadScript
  ec : ExcC K T.c_BadScript
  te : PySem.W.exmOne K (.ref T.c_BadScript) (.ref T.c_GateError) = some true
  kt : PySem.W.kitOne K (.ref T.c_BadScript) (.ref T.c_BadScript) = some true
  cl : Cls K T.c_Script
  mkS : Mk K T.c_Script T.f_Script_init
  na1 : NoAttr K T.c_Script "text"
  na2 : NoAttr K T.c_Script "lines"
  na3 : NoAttr K T.c_Script "gates"
  na4 : NoAttr K T.c_Script "width"
  na5 : NoAttr K T.c_Script "is_plain"
  na6 : NoAttr K T.c_Script "_gates_by_name"
  ca : PySem.W.findIn K (.ref T.c_Script) "__class__" = some (some (.builtin "object.__class__"))
  ob : PySem.W.mroIn K T.c_Script (.type "object") = some true
  kb : PySem.W.kitOne K (.ref T.c_Script) (.ref T.c_Script) = some true
/-- a text that can be read -/
structure TextOk (z : Str) : Prop where
  tx : TxOk 5000000 z
  n : (Txt.split z "\n").length ≤ 4000
  rows : ∀ r ∈ Txt.split z "\n", RowOk r
def joinR (ls : List Ln) : Nat ⊕ List Ln → Nat ⊕ List Ln
  | .inl k => .inl k
  | .inr l => .inr (ls ++ l)
theorem rowsR_no {kn : Kn} {n : Nat} {r : Str} {rs : List Str} (h : lineR kn r = none) : rowsR kn n (r :: rs) = .inl n := by
  unfold rowsR
  rw [h]
theorem rowsR_more {ls : List Ln} {n : Nat} {r : Str} {rs : List Str} {l : Ln} (h : lineR (knOf [] ls) r = some l) : joinR ls (rowsR (knOf [] ls) n (r :: rs)) = joinR (ls ++ [l]) (rowsR (knOf [] (ls ++ [l])) (n + 1) rs) := by
  rw [knOf_snoc]
  show joinR ls (match lineR (knOf [] ls) r with
    | none => .inl n
    | some l => match rowsR (knOf [] ls ++ [(l.nm, l.fm.gates (knOf [] ls))]) (n + 1) rs with
      | .inl k => .inl k
      | .inr ls => .inr (l :: ls)) = _
  rw [h]
  dsimp only
  cases rowsR (knOf [] ls ++ [(l.nm, l.fm.gates (knOf [] ls))]) (n + 1) rs with
  | inl k => rfl
  | inr l2 => simp [joinR]
/-- lines that have been read -/
def LnsW : Kn → List Ln → Prop
  | _, [] => True
  | kn, l :: r => (FrmW kn l.fm ∧ lnmB l.nm = true ∧ glk kn l.nm = none) ∧ LnsW (kn ++ [(l.nm, l.fm.gates kn)]) r
theorem rowsR_w : ∀ {rs : List Str} {kn : Kn} {n : Nat} {ls : List Ln}, rowsR kn n rs = .inr ls → LnsW kn ls
  | [], kn, n, ls, h => by
    cases h
    trivial
  | r :: rs, kn, n, ls, h => by
    unfold rowsR at h
    split at h
    · cases h
    · rename_i l e
      split at h
      · cases h
      · rename_i l2 e2
        cases h
        exact ⟨lineR_w e, rowsR_w e2⟩
theorem KnOk.one {kn : Kn} {l : Ln} (h : KnOk kn) (e : FrmW kn l.fm ∧ lnmB l.nm = true ∧ glk kn l.nm = none) : KnOk (kn ++ [(l.nm, l.fm.gates kn)]) := by
  obtain ⟨e1, _, e2⟩ := e
  refine ⟨?_, fun p hp => ?_⟩
  · rw [List.map_append, List.nodup_append]
    refine ⟨h.nd, by simp, fun a ha b hb z => ?_⟩
    have hb : b = l.nm := by simpa using hb
    subst hb
    subst z
    exact glk_none.mp e2 ha
  · rcases List.mem_append.mp hp with hp | hp
    · exact h.gs p hp
    · rw [List.mem_singleton.mp hp]
      exact e1.gsok h
theorem KnOk.ofW : ∀ {kn : Kn} {xs : List Ln}, KnOk kn → LnsW kn xs → KnOk (knOf kn xs)
  | kn, [], h, _ => h
  | kn, x :: r, h, o => KnOk.ofW (kn := kn ++ [(x.nm, x.fm.gates kn)]) (xs := r) (h.one o.1) o.2
theorem textR_w {z : Str} {ls : List Ln} (h : textR z = .inr ls) : LnsW [] ls ∧ ls ≠ [] ∧ ls.length + 1 = (Txt.split z "\n").length := by
  have ln : ∀ {rs : List Str} {kn : Kn} {n : Nat} {ls : List Ln}, rowsR kn n rs = .inr ls → ls.length = rs.length := by
    intro rs
    induction rs with
    | nil =>
      intro kn n ls h
      cases h
      rfl
    | cons r rs ih =>
      intro kn n ls h
      unfold rowsR at h
      split at h
      · cases h
      · split at h
        · cases h
        · rename_i l2 e2
          cases h
          rw [List.length_cons, List.length_cons, ih e2]
  unfold textR at h
  split at h
  · cases h
  · rename_i hd rs e
    split at h
    · split at h
      · cases h
      · rename_i n0
        refine ⟨rowsR_w h, fun z => n0 ?_, by rw [e, List.length_cons, ln h]⟩
        have := ln h
        rw [z] at this
        exact List.length_eq_zero_iff.mp this.symm
    · cases h
theorem glk_knW {xs : List Ln} (ok : KnOk (knOf [] xs)) {i : Nat} {l : Ln} (h : xs[i]? = some l) : glk (knOf [] xs) l.nm = some (l.fm.gates (knOf [] (xs.take i))) := by
  refine glk_mem ok.nd ?_
  have e : knOf [] xs = knOf (knOf [] (xs.take (i + 1))) (xs.drop (i + 1)) := by rw [← knOf_app, List.take_append_drop]
  obtain ⟨t, et⟩ := knOf_pre (kn := knOf [] (xs.take (i + 1))) (xs := xs.drop (i + 1))
  rw [e, et, knOf_take h]
  exact List.mem_append_left _ (List.mem_append_right _ List.mem_cons_self)
def spGateInit (K : PySem.W.Frag) : Sp := fun vs H Q _ => ∃ (a C : Addr) (y : V), vs = [.ref a, y] ∧ OexC K C ∧ PySem.W.findIn K (.ref C) "value" = some none ∧ H a = some (exo a C none) ∧
  ∀ dx, H dx = none → dx ≠ a → Q .non (upd (upd H dx (exd dx [("value", y)])) a (exo a C (some dx)))
section
variable {P : Program} {w : World} {K : PySem.W.Frag} {mg : Str → Option Value} {base : Heap}
theorem ok_GateError_init (T : Txt K mg) : FnOk P w K mg base CX0 1 T.f_GateError_init T.fd_GateError_init ["self", "value"] (spGateInit K) := by
  refine T.F_GateError_init.ok sc_GateError_init (fun vs H Q E h => ?_) (fun cdv A outer s H vs Q E hr h => ?_)
  · obtain ⟨a, C, y, rfl, _⟩ := h
    rfl
  · obtain ⟨a, C, y, rfl, hC, hno, ha, q⟩ := h
    refine ⟨_, pss_one (ps_ost (pv 0) (pv 1)), ?_⟩
    exact ⟨y, rfl, .ref a, rfl, a, C, rfl, hC, hno, .inl ⟨ha, fun dx n ne => q dx n ne⟩⟩
theorem raised_same {H : Hp} {a dx : Addr} {u1 u2 u3 u4 : HO} (ha : H a = none) (hd : upd H a u1 dx = none) : Same H (upd (del (upd (upd (upd H a u1) dx u2) a u3) a) dx u4) := fun b o e => by
  have n1 : b ≠ a := ne_of_none e ha
  have e1 : upd H a u1 b = some o := by
    rw [upd_ne n1]
    exact e
  have n2 : b ≠ dx := ne_of_none e1 hd
  rw [upd_ne n2, del_ne n1, upd_ne n1, upd_ne n2]
  exact e1
theorem bad_made {T : Txt K mg} (XT : TxtX K mg T) {H : Hp} {y : V} {Qx : XK} (q : ∀ d H', Same H H' → H' d = some (.xd [("value", y)]) → Qx (.ref T.c_BadScript) (some d) H') :
    [y].length ≤ 1000 ∧ ∀ a, H a = none → spGateInit K (.ref a :: ([y] ++ [])) (upd H a (exo a T.c_BadScript none))
      (fun v H2 => v = .non ∧ ∃ (d : Addr) (fs : List (Str × V)), H2 a = some (exo a T.c_BadScript (some d)) ∧ H2 d = some (exd d fs) ∧ H d = none ∧ Qx (.ref T.c_BadScript) (some d) (upd (del H2 a) d (.xd fs))) (fun _ _ _ => False) := by
  refine ⟨by show 1 ≤ 1000; decide, fun a ha => ⟨a, T.c_BadScript, y, rfl, XT.exB, XT.noV, upd_same, fun dx hdx hne => ⟨rfl, dx, [("value", y)], upd_same, ?_, ?_, ?_⟩⟩⟩
  · rw [upd_ne hne, upd_same]
  · rw [upd_ne hne] at hdx
    exact hdx
  · exact q dx _ (raised_same ha hdx) upd_same
def spRdScript (T : Txt K mg) : Sp := fun vs H Q E => ∃ (z : Str), vs = [.str z] ∧ TextOk z ∧ (∀ n : Nat, textR z = .inl n → ∀ (d : Addr) (H' : Hp), Same H H' → H' d = some (.xd [("value", .int (n : Int))]) → E (.ref T.c_BadScript) (some d) H') ∧
  ∀ (lns : List Ln) (a lt kd : Addr) (xs : List V) (kvs : List (Key × V)) (H' : Hp), textR z = .inr lns → Same H H' → H' a = some (.tup [.ref lt, .ref kd]) → H' lt = some (.tup xs) → TdAll K H' xs (lns.map Ln.data) → H' kd = some (.dK kvs) → KnD K H' kvs (knOf [] lns) → Q (.ref a) H'
theorem ok_read_script (T : Txt K mg) (XT : TxtX K mg T) : FnOk P w K mg base (L2.CX P w) 8 T.f_read_script T.fd_read_script ["text"] (spRdScript T) := by
  refine T.F_read_script.okX sc_read_script (fun vs H Q E h => ?_) (fun cdv A outer s H vs Q E hr h => ?_)
  · obtain ⟨z, rfl, _⟩ := h
    rfl
  · obtain ⟨z, rfl, ok, qe, q⟩ := h
    refine ⟨_, (pss_cons (ps_set (i := 1) sc_read_script.nd rfl (Or.inl rfl) (pe_split (pv 0) pe_str))
  (pss_cons (ps_if (pt_cmpR op_ne (pe_ix ix_list (pv 1) pe_int (fun _ _ => rfl)) pe_str (nomark _)) (pss_one (ps_raise rfl (takes_of rfl rfl rfl rfl) (pmk_oex XT.exB XT.inB XT.tyI (ok_GateError_init T) (hr.mono (by decide)) T.b_GateError_init .nil pass0 (by rfl) T.g_BadScript (pa_cons pe_int pa_nil)))) pss_nil)
  (pss_cons (ps_if (pt_cmpR op_eq (pe_callB call_len_seq (by rfl) T.n_len PySem.boot_len (pa_cons (pv 1) pa_nil)) pe_int (nomark _)) (pss_one (ps_raise rfl (takes_of rfl rfl rfl rfl) (pmk_oex XT.exB XT.inB XT.tyI (ok_GateError_init T) (hr.mono (by decide)) T.b_GateError_init .nil pass0 (by rfl) T.g_BadScript (pa_cons pe_int pa_nil)))) pss_nil)
  (pss_cons (ps_set (i := 2) sc_read_script.nd rfl (Or.inl rfl) (pe_lst pa_nil))
  (pss_cons (ps_set (i := 3) sc_read_script.nd rfl (Or.inl rfl) pe_dnewK)
  (pss_cons (ps_for (passes_of rfl) rfl (OGX.pi_enumS (by rfl) T.n_enumerate (pa_cons (pe_slice sl_list (pv 1) (po_some pe_int) po_none) pa_nil) (pk_cons pe_int pk_nil)) (pg_tup (by rfl) (pgs_cons (pg_name (i := 4) sc_read_script.nd rfl (Or.inl rfl)) (pgs_cons (pg_name (i := 5) sc_read_script.nd rfl (Or.inl rfl)) pgs_nil))) (pss_cons (ps_set (i := 6) sc_read_script.nd rfl (Or.inl rfl) (pe_call (ok_read_line T) (hr.mono (by decide)) (by rfl) T.g_read_line T.F_read_line.kp T.b_read_line .nil pass0 (pa_cons (pv 5) (pa_cons (pv 3) pa_nil))))
  (pss_cons (ps_if (pt_cmpR op_isN (pv 6) pe_non (nomark _)) (pss_one (ps_raise rfl (takes_of rfl rfl rfl rfl) (pmk_oex XT.exB XT.inB XT.tyI (ok_GateError_init T) (hr.mono (by decide)) T.b_GateError_init .nil pass0 (by rfl) T.g_BadScript (pa_cons (pv 4) pa_nil)))) pss_nil)
  (pss_cons (ps_asg (pv 6) (pg_tup (by rfl) (pgs_cons (pg_name (i := 7) sc_read_script.nd rfl (Or.inl rfl)) (pgs_cons (pg_name (i := 8) sc_read_script.nd rfl (Or.inl rfl)) (pgs_cons (pg_name (i := 9) sc_read_script.nd rfl (Or.inl rfl)) (pgs_cons (pg_name (i := 10) sc_read_script.nd rfl (Or.inl rfl)) pgs_nil))))))
  (pss_cons (ps_expr (pe_bm PySem.F.plainAttrs_list PySem.F.slot_list_append PySem.F.type_list_append mt_append (pv 2) (pa_cons (pe_tup (pa_cons (pv 7) (pa_cons (pv 8) (pa_cons (pv 9) pa_nil)))) pa_nil)))
  (pss_one (ps_dput (hu_of hr) (pv 3) (pv 7) (pv 10) rfl)))))))
  (pss_one (ps_ret (pe_tup (pa_cons (pe_callTy call_tuple_of (by rfl) T.n_tuple (by decide +kernel) (pa_cons (pv 2) pa_nil)) (pa_cons (pv 3) pa_nil))))))))))), ?_⟩
    have wide : ∀ {n : Nat}, n ≤ 10000000 → n ≤ sizeLine := fun h => Nat.le_trans h (by decide)
    have zl := ok.tx.len
    refine ⟨_, rfl, ⟨_, rfl⟩, z, "\n", rfl, rfl, rfl, wide (by omega), fun p hp => ?_⟩
    obtain ⟨n0, _, _⟩ := ok.tx.split (y := "\n") rfl (by decide +kernel)
    have n4 := ok.n
    have rok := ok.rows
    unfold textR at qe q
    obtain ⟨hd, rs, er⟩ : ∃ hd rs, Txt.split z "\n" = hd :: rs := by
      cases e : Txt.split z "\n" with
      | nil => exact absurd e n0
      | cons a r => exact ⟨a, r, rfl⟩
    rw [er] at qe q n4 rok ⊢
    dsimp only at qe q
    have n4 : rs.length + 1 ≤ 4000 := n4
    have rok : ∀ r ∈ rs, RowOk r := fun r hr => rok r (List.mem_cons_of_mem _ hr)
    have s0 := same_new (o := .lst ((hd :: rs).map V.str)) hp
    have g0 : (upd H p (.lst ((hd :: rs).map V.str))) p = some (.lst ((hd :: rs).map V.str)) := upd_same
    generalize upd H p (.lst ((hd :: rs).map V.str)) = H0 at *
    refine ⟨_, rfl, p, _, 0, .str hd, rfl, rfl, SqL.of g0, atI_nat (j := 0) rfl, rfl, _, rfl, ?_⟩
    by_cases e1 : hd = "script"
    case neg =>
      rw [if_neg e1] at qe
      refine iteT' (by rw [decide_eq_false fun z => e1 (V.str.inj z)]; rfl) ?_
      exact bad_made XT fun d H' s' hd => qe 1 rfl d H' (s0.trans s') hd
    rw [if_pos e1] at qe q
    refine iteF' (by rw [decide_eq_true (congrArg V.str e1)]; decide) ?_
    refine ⟨_, rfl, p, _, rfl, .inl (SqL.of g0), rfl, _, rfl, ?_⟩
    by_cases e2 : rs = []
    · rw [if_pos e2] at qe
      subst e2
      refine iteT' rfl ?_
      exact bad_made XT fun d H' s' hd => qe 2 rfl d H' (s0.trans s') hd
    rw [if_neg e2] at qe q
    rw [decide_eq_false fun z => by
      have z := V.int.inj z
      rw [List.length_map, List.length_cons] at z
      have := List.length_pos_iff.mpr e2
      omega]
    refine iteF ?_
    refine ⟨wide (show 0 ≤ 10000000 by decide), fun lp hlp kd hkd => ?_⟩
    have nLK : lp ≠ kd := fun e => by
      rw [← e, upd_same] at hkd
      cases hkd
    have sA := same_new (o := .lst []) hlp
    have sB := same_new (o := .dK []) hkd
    have gl : (upd (upd H0 lp (.lst [])) kd (.dK [])) lp = some (.lst []) := sB _ _ upd_same
    have gk : (upd (upd H0 lp (.lst [])) kd (.dK [])) kd = some (.dK []) := upd_same
    have fk : H0 kd = none := fresh_of sA hkd
    have s1 := sA.trans sB
    have g1 := s1 _ _ g0
    generalize upd (upd H0 lp (.lst [])) kd (.dK []) = H1 at *
    refine ⟨_, rfl, _, rfl, p, _, rfl, SqL.of g1, fun sl hsl => ?_⟩
    rw [show cutV ((hd :: rs).map V.str) (some 1) none = rs.map V.str from cut1 _ _]
    have s2 := same_new (o := .lst (rs.map V.str)) hsl
    have gs : (upd H1 sl (.lst (rs.map V.str))) sl = some (.lst (rs.map V.str)) := upd_same
    have nsl : sl ≠ lp := fun e => by
      rw [e, gl] at hsl
      cases hsl
    have nsk : sl ≠ kd := fun e => by
      rw [e, gk] at hsl
      cases hsl
    have gl := s2 _ _ gl
    have gk := s2 _ _ gk
    have s3 := (s0.trans s1).trans s2
    have nH0 : H lp = none := fresh_of s0 hlp
    have nHk : H kd = none := fresh_of s0 fk
    generalize upd H1 sl (.lst (rs.map V.str)) = H2 at *
    refine ⟨sl, _, 2, rfl, rfl, by decide, SqL.of gs, ?_⟩
    refine OGX.for_enumS (K := K) (a := sl) (xs := rs.map V.str) (m0 := 2) (fun i σ H' => ∃ (u4 u5 u6 u7 u8 u9 u10 : Option V) (xs : List V) (kvs : List (Key × V)) (ls : List Ln), σ = [some (.str z), some (.ref p), some (.ref lp), some (.ref kd), u4, u5, u6, u7, u8, u9, u10] ∧ Same H H' ∧ H' sl = some (.lst (rs.map V.str)) ∧
        H' lp = some (.lst xs) ∧ H' kd = some (.dK kvs) ∧ TdAll K H' xs (ls.map Ln.data) ∧ KnD K H' kvs (knOf [] ls) ∧ KnOk (knOf [] ls) ∧ ls.length = i ∧ i ≤ rs.length ∧ rowsR [] 2 rs = joinR ls (rowsR (knOf [] ls) (i + 2) (rs.drop i)))
      ⟨_, _, _, _, _, _, _, [], [], [], rfl, s3, gs, gl, gk, .nil, .nil, KnOk.nil, rfl, Nat.zero_le _, by
        show _ = joinR [] (rowsR [] 2 rs)
        cases rowsR [] 2 rs <;> rfl⟩ (fun i σ H' ⟨_, _, _, _, _, _, _, _, _, _, _, _, gs, _⟩ => SqL.of gs) ?_ ?_
    · rintro i x T0 σ H' hx ⟨u4, u5, u6, u7, u8, u9, u10, xs, kvs, ls, rfl, s, gs, gl, gk, td, kn, ko, li, hi, hrs⟩ hT0
      obtain ⟨row, hz, rfl⟩ := str_at hx
      have hil := (List.getElem?_eq_some_iff.mp hz).1
      have ed : rs.drop i = row :: rs.drop (i + 1) := by
        rw [List.drop_eq_getElem_cons hil, (List.getElem?_eq_some_iff.mp hz).2]
      rw [ed] at hrs
      have u1 := same_new (o := .tup [.int ((2 + i : Nat) : Int), .str row]) hT0
      refine ⟨T0, _, rfl, SqT.of upd_same, rfl, _, _, rfl, _, _, rfl, rfl, ?_⟩
      generalize upd H' T0 (.tup [.int ((2 + i : Nat) : Int), .str row]) = H3 at *
      refine ⟨_, rfl, _, rfl, kd, _, kvs, row, rfl, u1 _ _ gk, kn.mv (Same.tk u1), ko, rok row (List.mem_of_getElem? hz), fun el H4 u2 => ?_, fun l a H4 el u2 tdl => ?_⟩
      · refine ⟨_, rfl, rfl, _, rfl, ?_⟩
        refine iteT' rfl ?_
        refine ⟨_, rfl, ?_⟩
        refine bad_made XT fun d H' s' hd => qe (i + 2) ?_ d H' (((s.trans u1).trans u2).trans s') ?_
        · rw [hrs, rowsR_no el]
          rfl
        · rw [show i + 2 = 2 + i by omega]
          exact hd
      rw [rowsR_more el] at hrs
      have u2 := u1.trans u2
      obtain ⟨_, ys, e, hT, hA⟩ := tdl.tupI
      cases e
      obtain ⟨x1, r1, rfl, t1, hA⟩ := hA.consI
      obtain ⟨x2, r2, rfl, t2, hA⟩ := hA.consI
      obtain ⟨x3, r3, rfl, t3, hA⟩ := hA.consI
      obtain ⟨x4, r4, rfl, t4, hA⟩ := hA.consI
      cases hA.nilI
      cases t1.strI
      cases t2.strI
      refine ⟨_, rfl, rfl, _, rfl, ?_⟩
      refine iteF ?_
      refine ⟨_, rfl, a, _, rfl, hT, rfl, _, _, rfl, _, _, rfl, _, _, rfl, _, _, rfl, rfl, ?_⟩
      refine ⟨_, rfl, .inl ⟨rfl, _, SqL.of (u2 _ _ gl)⟩, ?_⟩
      refine ⟨_, rfl, _, rfl, _, rfl, wide (show 3 ≤ 10000000 by decide), fun tt htt => ?_⟩
      have u3 := u2.trans (same_new (o := .tup [.str l.nm, .str l.fm.word, x3]) htt)
      have gt : (upd H4 tt (.tup [.str l.nm, .str l.fm.word, x3])) tt = some (.tup [.str l.nm, .str l.fm.word, x3]) := upd_same
      have k34 : TK H4 (upd H4 tt (.tup [.str l.nm, .str l.fm.word, x3])) := tk_new htt
      generalize upd H4 tt (.tup [.str l.nm, .str l.fm.word, x3]) = H5 at *
      have xl : xs.length ≤ 4000 := by
        have := td.lnLen
        omega
      refine ⟨lp, xs, .ref tt, rfl, rfl, u3 _ _ gl, Nat.lt_of_le_of_lt xl (by decide), ?_⟩
      have k6 := tk_lst (o := .lst (xs ++ [.ref tt])) (u3 _ _ gl)
      have g6l : (upd H5 lp (.lst (xs ++ [.ref tt]))) lp = some (.lst (xs ++ [.ref tt])) := upd_same
      have g6k : (upd H5 lp (.lst (xs ++ [.ref tt]))) kd = some (.dK kvs) := by
        rw [upd_ne (fun e => nLK e.symm)]
        exact u3 _ _ gk
      have g6s : (upd H5 lp (.lst (xs ++ [.ref tt]))) sl = some (.lst (rs.map V.str)) := by
        rw [upd_ne nsl]
        exact u3 _ _ gs
      have s6 : Same H (upd H5 lp (.lst (xs ++ [.ref tt]))) := fun b o e => by
        rw [upd_ne (ne_of_none e nH0)]
        exact u3 _ _ (s _ _ e)
      generalize upd H5 lp (.lst (xs ++ [.ref tt])) = H6 at *
      have kl : kvs.length ≤ 4000 := by
        rw [kn.len, knOf_len]
        show 0 + _ ≤ 4000
        omega
      refine ⟨_, rfl, _, rfl, _, rfl, kd, _, rfl, .inl ⟨kvs, .inr l.nm, g6k, rfl, Nat.lt_of_le_of_lt kl (by decide), rfl⟩, ?_⟩
      have lw := lineR_w el
      have nk : valV kvs (.inr l.nm) = none := kn.no lw.2.2
      have k7 := tk_dK (o := .dK (putK kvs (.inr l.nm) x4)) g6k
      have kall := (((Same.tk u2).trans k34).trans k6).trans k7
      have k47 := (k34.trans k6).trans k7
      refine ⟨_, _, _, _, _, _, _, xs ++ [.ref tt], putK kvs (.inr l.nm) x4, ls ++ [l], rfl, fun b o e => ?_, ?_, ?_, upd_same, ?_, ?_, ?_, by rw [List.length_append, li]; rfl, hil, hrs⟩
      · rw [upd_ne (ne_of_none e nHk)]
        exact s6 _ _ e
      · rw [upd_ne nsk]
        exact g6s
      · rw [upd_ne nLK]
        exact g6l
      · rw [List.map_append]
        exact TdAll.snoc (.tup (SqT.tk (SqT.tk (SqT.of gt) k6) k7) (.cons (.str _) (.cons (.str _) (.cons (t3.mv k47) .nil)))) (td.mv kall)
      · rw [putK_new _ nk] at kall k47 ⊢
        rw [knOf_snoc]
        exact KnD.snoc (t4.mv k47) (kn.mv kall)
      · rw [knOf_snoc]
        exact ko.one lw
    · rintro σ H' ⟨u4, u5, u6, u7, u8, u9, u10, xs, kvs, ls, rfl, s, gs, gl, gk, td, kn, ko, li, _, hrs⟩
      rw [List.length_map, List.drop_length] at hrs
      refine ⟨_, rfl, lp, xs, rfl, .inl ⟨SqL.of gl, fun lt hlt => ⟨_, rfl, wide (show 2 ≤ 10000000 by decide), fun a ha => ?_⟩⟩⟩
      have e1 := same_new (o := .tup xs) hlt
      have e2 := same_new (o := .tup [.ref lt, .ref kd]) ha
      have st := e1.trans e2
      refine q ls a lt kd xs kvs _ ?_ (s.trans st) upd_same (e2 _ _ upd_same) (td.mv (Same.tk st)) (st _ _ gk) (kn.mv (Same.tk st))
      rw [hrs]
      show Sum.inr (ls ++ []) = _
      rw [List.append_nil]
end
end OG
set_option Elab.async false
set_option linter.all false
set_option maxRecDepth 100000
set_option maxHeartbeats 8000000
namespace OG
open PySem PySem.Spec PyProof.Rows L2 OGX
/-- a value that is no text, or a text that can be read -/
def NearV (H : Hp) : V → Prop
  | .non => True
  | .bl _ => True
  | .int _ => True
  | .str z => TextOk z
  | .ref a => (∃ xs, H a = some (.lst xs)) ∨ (∃ xs, H a = some (.tup xs)) ∨ ∃ kvs, H a = some (.dK kvs)
  | _ => False
theorem NearV.same {H H' : Hp} (s : Same H H') : ∀ {v : V}, NearV H v → NearV H' v
  | .non, h => h
  | .bl _, h => h
  | .int _, h => h
  | .str _, h => h
  | .ref a, h => by
    rcases h with ⟨xs, h⟩ | ⟨xs, h⟩ | ⟨xs, h⟩
    · exact .inl ⟨xs, s _ _ h⟩
    · exact .inr (.inl ⟨xs, s _ _ h⟩)
    · exact .inr (.inr ⟨xs, s _ _ h⟩)
def isStr : V → Bool
  | .str _ => true
  | _ => false
/-- isinstance(v, str) -/
theorem isi_ty {K : PySem.W.Frag} {H : Hp} : ∀ {v : V}, NearV H v → ∃ t, TyX K H v t ∧ PySem.W.kitOne K t (.type "str") = some (isStr v)
  | .non, _ => ⟨_, .base .non, kit_ty (r := false) (by decide +kernel)⟩
  | .bl b, _ => ⟨_, .base (.bl b), kit_ty (r := false) (by decide +kernel)⟩
  | .int i, _ => ⟨_, .base (.int i), kit_ty (r := false) (by decide +kernel)⟩
  | .str z, _ => ⟨_, .base (.str z), kit_ty (r := true) (by decide +kernel)⟩
  | .ref a, h => by
    rcases h with ⟨xs, h⟩ | ⟨xs, h⟩ | ⟨xs, h⟩
    · exact ⟨_, .base (.lst h), kit_ty (r := false) (by decide +kernel)⟩
    · exact ⟨_, .base (.tup h), kit_ty (r := false) (by decide +kernel)⟩
    · exact ⟨_, .base (.dK h), kit_ty (r := false) (by decide +kernel)⟩
/-- what is wrong with a value: nothing, or a number -/
def valR : V → Nat ⊕ List Ln
  | .str z => textR z
  | _ => .inl 0
def lastG (lns : List Ln) : List Int := (lns.getLast?.bind fun l => glk (knOf [] lns) l.nm).getD []
def plainL (lns : List Ln) : Bool := !(lns.map fun l => decide (l.fm.word = ("add" : Str))).any id
/-- a script as it stands -/
def ScrAt (K : PySem.W.Frag) (C : Addr) (H : Hp) (x : Addr) (z : Str) (lns : List Ln) : Prop := ∃ (dx lt kd ga : Addr) (fs : List (Str × V)) (xs : List V) (kvs : List (Key × V)), H x = some (.ins C dx fs) ∧ fs.length ≤ 10 ∧
  fs.lookup ("text" : Str) = some (.str z) ∧ fs.lookup ("lines" : Str) = some (.ref lt) ∧ H lt = some (.tup xs) ∧ TdAll K H xs (lns.map Ln.data) ∧ fs.lookup ("gates" : Str) = some (.ref ga) ∧ Td K H (.ref ga) (gsD (lastG lns)) ∧
  fs.lookup ("width" : Str) = some (.int (widthL lns : Nat)) ∧ fs.lookup ("is_plain" : Str) = some (.bl (plainL lns)) ∧ fs.lookup ("_gates_by_name" : Str) = some (.ref kd) ∧ H kd = some (.dK kvs) ∧ KnD K H kvs (knOf [] lns) ∧ fs.lookup ("gates_of" : Str) = none
theorem putF_le (f : Str) (y : V) : ∀ fs : List (Str × V), (putF f y fs).length ≤ fs.length + 1
  | [] => Nat.le_refl _
  | p :: r => by
    have := putF_le f y r
    unfold putF
    split <;> simp_all
theorem tk_ins {H : Hp} {x C dx : Addr} {fs : List (Str × V)} {o : HO} (h : H x = some (.ins C dx fs)) : TK H (upd H x o) := ⟨fun b ys e => by rw [upd_ne (fun z => by rw [z, h] at e; cases e)]; exact e, fun b u ys e => by rw [upd_ne (fun z => by rw [z, h] at e; cases e)]; exact e⟩
structure IS (K : PySem.W.Frag) (C : Addr) (H0 : Hp) (x lt kd dx : Addr) (xs : List V) (kvs : List (Key × V)) (lns : List Ln) (fs : List (Str × V)) (H' : Hp) : Prop where
  s : Same H0 H'
  hx : H' x = some (.ins C dx fs)
  gl : H' lt = some (.tup xs)
  td : TdAll K H' xs (lns.map Ln.data)
  gk : H' kd = some (.dK kvs)
  kn : KnD K H' kvs (knOf [] lns)
theorem IS.put {K : PySem.W.Frag} {C : Addr} {H0 H' : Hp} {x lt kd dx : Addr} {xs : List V} {kvs : List (Key × V)} {lns : List Ln} {fs fs' : List (Str × V)} (h : IS K C H0 x lt kd dx xs kvs lns fs H') (hx0 : H0 x = none) (nl : lt ≠ x) (nk : kd ≠ x) :
    IS K C H0 x lt kd dx xs kvs lns fs' (upd H' x (.ins C dx fs')) := by
  refine ⟨fun b o e => ?_, upd_same, ?_, h.td.mv (tk_ins h.hx), ?_, h.kn.mv (tk_ins h.hx)⟩
  · rw [upd_ne (ne_of_none e hx0)]
    exact h.s _ _ e
  · rw [upd_ne nl]
    exact h.gl
  · rw [upd_ne nk]
    exact h.gk
theorem IS.sm {K : PySem.W.Frag} {C : Addr} {H0 H' H2 : Hp} {x lt kd dx : Addr} {xs : List V} {kvs : List (Key × V)} {lns : List Ln} {fs : List (Str × V)} (h : IS K C H0 x lt kd dx xs kvs lns fs H') (s : Same H' H2) : IS K C H0 x lt kd dx xs kvs lns fs H2 :=
  ⟨h.s.trans s, s _ _ h.hx, s _ _ h.gl, h.td.mv (Same.tk s), s _ _ h.gk, h.kn.mv (Same.tk s)⟩
theorem KnD.val {K : PySem.W.Frag} {H : Hp} : ∀ {kvs : List (Key × V)} {kn : Kn} {i : Nat} {k : Key} {v : V}, KnD K H kvs kn → kvs[i]? = some (k, v) → ∃ p, kn[i]? = some p ∧ Td K H v (gsD p.2)
  | _, _, i, _, _, .nil, h => by simp at h
  | _, _, 0, _, _, .cons h _, e => by
    cases Option.some.inj e
    exact ⟨_, rfl, h⟩
  | _, _, i + 1, _, _, .cons _ t, e => KnD.val (i := i) t e
section
variable {P : Program} {w : World} {K : PySem.W.Frag} {mg : Str → Option Value} {base : Heap}
def spScrInit (T : Txt K mg) : Sp := fun vs H Q E => ∃ (x dx : Addr) (v : V) (H0 : Hp), vs = [.ref x, v] ∧ Same H0 H ∧ H0 x = none ∧ H x = some (.ins T.c_Script dx []) ∧ NearV H v ∧
  (∀ n : Nat, valR v = .inl n → ∀ (d : Addr) (H' : Hp), Same H H' → H' d = some (.xd [("value", .int (n : Int))]) → E (.ref T.c_BadScript) (some d) H') ∧
  ∀ (z : Str) (lns : List Ln), v = .str z → textR z = .inr lns → ∀ H', Same H0 H' → ScrAt K T.c_Script H' x z lns → Q .non H'
theorem ok_Script_init (T : Txt K mg) (XT : TxtX K mg T) : FnOk P w K mg base (L2.CX P w) 9 T.f_Script_init T.fd_Script_init ["self", "text"] (spScrInit T) := by
  refine T.F_Script_init.okX sc_Script_init (fun vs H Q E h => ?_) (fun cdv A outer s H vs Q E hr h => ?_)
  · obtain ⟨x, dx, lns, H0, rfl, _⟩ := h
    rfl
  · obtain ⟨x, dx, v, H0, rfl, s0, hx0, hx, hv, qe, q⟩ := h
    refine ⟨_, (pss_cons (ps_if (pt_not (pt_val (pe_callB call_isi (by rfl) T.n_isinstance (by decide +kernel) (pa_cons (pv 1) (pa_cons (pe_bltn (v := .ty "str") (by rfl) T.n_str (by decide +kernel) rfl) pa_nil))))) (pss_one (ps_raise rfl (takes_of rfl rfl rfl rfl) (pmk_oex XT.exB XT.inB XT.tyI (ok_GateError_init T) (hr.mono (by decide)) T.b_GateError_init .nil pass0 (by rfl) T.g_BadScript (pa_cons pe_int pa_nil)))) pss_nil)
  (pss_cons (ps_asg (pe_call (ok_read_script T XT) (hr.mono (by decide)) (by rfl) T.g_read_script T.F_read_script.kp T.b_read_script .nil (passes_call (takes_of rfl rfl rfl rfl) (fun _ _ _ _ h => h)) (pa_cons (pv 1) pa_nil)) (pg_tup (by rfl) (pgs_cons (pg_name (i := 2) sc_Script_init.nd rfl (Or.inl rfl)) (pgs_cons (pg_name (i := 3) sc_Script_init.nd rfl (Or.inl rfl)) pgs_nil))))
  (pss_cons (ps_fld (pv 0) (pv 1) rfl)
  (pss_cons (ps_fld (pv 0) (pv 2) rfl)
  (pss_cons (ps_fld (pv 0) (pe_dget (hu_of hr) (pv 3) (pe_ix ix_tup (pe_ix ix_tup (pv 2) (pe_un un_neg pe_int) (fun _ _ => rfl)) pe_int (fun _ _ => rfl)) (fun _ _ => rfl)) rfl)
  (pss_cons (ps_fld (pv 0) (pe_lock (pe_callB (cr_max rfl) (by rfl) T.n_max (by decide +kernel) (pa_cons (pe_lc (own := [("own", 4)]) (g := gName 4) (by rfl) sc_Script_init.nd (pi_values (pv 3)) (blkOk_by (own := [("own", 4)]) (by rfl)) (fun _ _ _ _ _ => (pg_name (i := 4) sc_Script_init.nd rfl (Or.inl rfl))) (fun _ _ _ _ _ => pts_nil) (fun _ _ _ _ _ => (pe_callB (call_len_seqK K) (by rfl) T.n_len PySem.boot_len (pa_cons (pv 4) pa_nil)))) pa_nil))) rfl)
  (pss_cons (ps_fld (pv 0) (pe_not (pe_callB (cr_any rfl) (by rfl) T.n_any (by decide +kernel) (pa_cons (pe_lc (own := [("line", 5)]) (g := gName 5) (by rfl) sc_Script_init.nd (pi_tup (pv 2)) (blkOk_by (own := [("line", 5)]) (by rfl)) (fun _ _ _ _ _ => (pg_name (i := 5) sc_Script_init.nd rfl (Or.inl rfl))) (fun _ _ _ _ _ => pts_nil) (fun _ _ _ _ _ => (pe_cmpR op_eq (pe_ix (ix_tupK K) (pv 5) pe_int (fun _ _ => rfl)) pe_str (nomark _)))) pa_nil))) rfl)
  (pss_one (ps_fld (pv 0) (pv 3) rfl))))))))), ?_⟩
    have wide : ∀ {n : Nat}, n ≤ 10000000 → n ≤ sizeLine := fun h => Nat.le_trans h (by decide)
    obtain ⟨t, ty, kt⟩ := isi_ty (K := K) hv
    refine ⟨_, rfl, _, _, t, _, isStr v, rfl, .ty _, ty, kt, ?_⟩
    refine ⟨_, rfl, ?_⟩
    by_cases isv : isStr v = true
    case neg =>
      refine iteT' (by rw [Bool.not_eq_true] at isv; rw [isv]; rfl) ?_
      refine bad_made XT fun d H' s' hd => qe 0 ?_ d H' s' hd
      cases v <;> first | rfl | exact absurd rfl isv
    obtain ⟨z, rfl⟩ : ∃ z, v = .str z := by
      cases v <;> first | exact ⟨_, rfl⟩ | cases isv
    have hv : TextOk z := hv
    refine iteF' (by rw [isv]; decide) ?_
    refine ⟨_, rfl, z, rfl, hv, fun n en d H' s' hd => qe n en d H' s' hd, fun lns a lt kd xs kvs H1 en s1 ga gl td gk kn => ?_⟩
    obtain ⟨lw, hn, ll⟩ := textR_w en
    have h4000 : lns.length ≤ 4000 := by
      have := hv.n
      omega
    have ko : KnOk (knOf [] lns) := KnOk.nil.ofW lw
    have q := q z lns rfl en
    refine ⟨a, _, rfl, SqT.of ga, rfl, _, _, rfl, _, _, rfl, rfl, ?_⟩
    have hx1 := s1 _ _ hx
    have nl : lt ≠ x := fun e => by
      rw [e, hx1] at gl
      cases gl
    have nk : kd ≠ x := fun e => by
      rw [e, hx1] at gk
      cases gk
    have sA := s0.trans s1
    have I : IS K T.c_Script H0 x lt kd dx xs kvs lns [] H1 := ⟨sA, hx1, gl, td, gk, kn⟩
    refine ⟨_, rfl, _, rfl, x, T.c_Script, dx, [], rfl, I.hx, XT.cl, XT.na1, by show 0 < 1000; decide, ?_⟩
    have I := I.put (fs' := putF "text" (.str (z)) []) hx0 nl nk
    have l1 := putF_le "text" (V.str (z)) []
    generalize upd H1 x (.ins T.c_Script dx (putF "text" (.str (z)) [])) = H2 at *
    obtain ⟨f1, hf1⟩ : ∃ f, f = putF "text" (V.str (z)) [] := ⟨_, rfl⟩
    rw [← hf1] at I l1
    refine ⟨_, rfl, _, rfl, x, T.c_Script, dx, f1, rfl, I.hx, XT.cl, XT.na2, Nat.lt_of_le_of_lt l1 (by show 1 < 1000; decide), ?_⟩
    have I := I.put (fs' := putF "lines" (.ref lt) f1) hx0 nl nk
    have l2 := putF_le "lines" (V.ref lt) f1
    generalize upd H2 x (.ins T.c_Script dx (putF "lines" (.ref lt) f1)) = H3 at *
    obtain ⟨f2, hf2⟩ : ∃ f, f = putF "lines" (V.ref lt) f1 := ⟨_, rfl⟩
    rw [← hf2] at I l2
    have l1 : f1.length ≤ 1 := l1
    obtain ⟨pre, l, el⟩ : ∃ pre l, lns = pre ++ [l] := ⟨_, _, (List.dropLast_concat_getLast hn).symm⟩
    have xn : xs ≠ [] := fun e => by
      have := I.td.lnLen
      rw [e, el] at this
      simp at this
    obtain ⟨ys, v, ex⟩ : ∃ ys v, xs = ys ++ [v] := ⟨_, _, (List.dropLast_concat_getLast xn).symm⟩
    have yl : ys.length = pre.length := by
      have := I.td.lnLen
      rw [ex, el, List.length_append, List.length_append] at this
      simp at this
      exact this
    have hv : xs[pre.length]? = some v := by
      rw [ex, ← yl, List.getElem?_append_right (Nat.le_refl _), Nat.sub_self]
      rfl
    have hl : lns[pre.length]? = some l := by
      rw [el, List.getElem?_append_right (Nat.le_refl _), Nat.sub_self]
      rfl
    obtain ⟨l', hl', hld⟩ := I.td.lnAt hv
    rw [hl] at hl'
    cases Option.some.inj hl'
    obtain ⟨la, lpp, rfl, hla, _⟩ := hld.ln
    have gL := glk_knW ko hl
    have eG : lastG lns = l.fm.gates (knOf [] (lns.take pre.length)) := by
      unfold lastG
      rw [show lns.getLast? = some l by rw [el]; simp]
      show (glk (knOf [] lns) l.nm).getD [] = _
      rw [gL]
      rfl
    obtain ⟨gv, gv1, gv2⟩ := I.kn.get gL
    obtain ⟨g0, rfl, gv3⟩ := gv2.gs
    have aL : atI xs (-1) = some (.ref la) := by
      rw [ex]
      exact atI_last _ _
    refine ⟨_, rfl, _, rfl, _, rfl, lt, xs, -1, .ref la, rfl, rfl, SqT.of I.gl, aL, la, _, 0, .str l.nm, rfl, rfl, hla, rfl, kd, .ref g0, rfl, .inl ⟨kvs, .inr l.nm, .inl I.gk, rfl, gv1.symm⟩, ?_⟩
    refine ⟨_, rfl, x, T.c_Script, dx, f2, rfl, I.hx, XT.cl, XT.na3, Nat.lt_of_le_of_lt (Nat.le_trans l2 (Nat.succ_le_succ l1)) (by decide), ?_⟩
    have gv4 := gv2.mv (tk_ins (o := .ins T.c_Script dx (putF "gates" (.ref g0) f2)) I.hx)
    have I := I.put (fs' := putF "gates" (.ref g0) f2) hx0 nl nk
    have l3 := putF_le "gates" (V.ref g0) f2
    generalize upd H3 x (.ins T.c_Script dx (putF "gates" (.ref g0) f2)) = H4 at *
    obtain ⟨f3, hf3⟩ : ∃ f, f = putF "gates" (V.ref g0) f2 := ⟨_, rfl⟩
    rw [← hf3] at I l3
    have l3 : f3.length ≤ 3 := by omega
    refine ⟨kd, .dK kvs, I.gk, trivial, fun od => ?_⟩
    have f0 : (upd H4 kd (.frz od (.dK kvs))) kd = some (.frz od (.dK kvs)) := upd_same
    have k0 : TK H4 (upd H4 kd (.frz od (.dK kvs))) := tk_dK I.gk
    have o0 : ∀ b o, b ≠ kd → H4 b = some o → (upd H4 kd (.frz od (.dK kvs))) b = some o := fun b o n e => by
      rw [upd_ne n]
      exact e
    generalize upd H4 kd (.frz od (.dK kvs)) = HL at *
    refine ⟨_, rfl, kd, od, kvs, rfl, f0, fun D hD => ?_⟩
    have nDk : D ≠ kd := fun e => by
      rw [e, f0] at hD
      cases hD
    let ns : List Int := ((knOf [] lns).map (·.2.length)).map Int.ofNat
    have nl' : ns.length = kvs.length := by
      show (((knOf [] lns).map (·.2.length)).map Int.ofNat).length = kvs.length
      rw [List.length_map, List.length_map, I.kn.len]
    have kl : kvs.length = lns.length := by
      rw [I.kn.len, knOf_len]
      simp
    refine lc_it walk_values (fun i H' => Same HL H' ∧ H' D = some (.lst ((ns.take i).map V.int))) ⟨same_new hD, upd_same⟩ (fun i H' _ ⟨s, _⟩ => s _ _ f0) ?_ ?_
    · rintro i v H' H'' hi ⟨s, g⟩ ⟨rfl, k, hk⟩
      obtain ⟨p, hp, hpv⟩ := I.kn.val hk
      obtain ⟨va, rfl, hva⟩ := hpv.gs
      refine ⟨rfl, ?_⟩
      refine ⟨_, rfl, va, _, rfl, .inr (SqT.tk hva (k0.trans (Same.tk s))), _, g, ?_, fun b o e => ?_, ?_⟩
      · rw [List.length_map, List.length_take]
        exact Nat.lt_of_le_of_lt (show min i ns.length ≤ 4000 by omega) (by decide)
      · rw [upd_ne (ne_of_none e hD)]
        exact s _ _ e
      · rw [upd_same, take_more (l := ns) (i := i) (x := (p.2.length : Int)) (by
          show (((knOf [] lns).map (·.2.length)).map Int.ofNat)[i]? = _
          rw [List.getElem?_map, List.getElem?_map, hp]
          rfl), List.map_append, List.length_map]
        rfl
    rintro H5 ⟨s5, g5⟩
    rw [← nl', List.take_length] at g5
    refine ⟨D, ns, rfl, SqL.of g5, ?_, fun m hm hh => ?_⟩
    · rw [nl', kl]
      exact List.length_pos_iff.mpr hn
    rw [max_is rfl hm hh]
    refine ⟨s5 _ _ f0, ?_⟩
    have sU : Same H4 (upd H5 kd (.dK kvs)) := fun b o e => by
      by_cases n : b = kd
      · rw [n, I.gk] at e
        rw [n, upd_same]
        exact e
      · rw [upd_ne n]
        exact s5 _ _ (o0 b o n e)
    have I := I.sm sU
    have gv4 := gv4.mv (Same.tk sU)
    generalize upd H5 kd (.dK kvs) = H6 at *
    refine ⟨_, rfl, x, T.c_Script, dx, f3, rfl, I.hx, XT.cl, XT.na4, Nat.lt_of_le_of_lt l3 (by decide), ?_⟩
    have gv4 := gv4.mv (tk_ins (o := .ins T.c_Script dx (putF "width" (.int (widthL lns : Nat)) f3)) I.hx)
    have I := I.put (fs' := putF "width" (.int (widthL lns : Nat)) f3) hx0 nl nk
    have l4 := putF_le "width" (V.int (widthL lns : Nat)) f3
    have e5 : upd H6 x (.ins T.c_Script dx (putF "width" (.int ((((knOf [] lns).map (·.2.length)).foldl max 0 : Nat) : Int)) f3)) = upd H6 x (.ins T.c_Script dx (putF "width" (.int (widthL lns : Nat)) f3)) := rfl
    rw [e5]
    generalize upd H6 x (.ins T.c_Script dx (putF "width" (.int (widthL lns : Nat)) f3)) = H7 at *
    obtain ⟨f4, hf4⟩ : ∃ f, f = putF "width" (V.int (widthL lns : Nat)) f3 := ⟨_, rfl⟩
    rw [← hf4] at I l4
    have l4 : f4.length ≤ 4 := by omega
    refine ⟨_, rfl, lt, rfl, ⟨_, SqT.of I.gl⟩, fun D2 hD2 => ?_⟩
    have xl : xs.length = lns.length := I.td.lnLen
    refine lc_tup (K := K) (a := lt) (xs := xs) (fun i H' => Same H7 H' ∧ H' D2 = some (.lst (((lns.map fun l => decide (l.fm.word = ("add" : Str))).take i).map V.bl))) ⟨same_new hD2, upd_same⟩ (fun i H' _ ⟨s, _⟩ => SqT.of (s _ _ I.gl)) ?_ ?_
    · rintro i v H' hv ⟨s, g⟩
      obtain ⟨l2, hl2, hd2⟩ := I.td.lnAt hv
      obtain ⟨a2, p2, rfl, ha2, _⟩ := hd2.ln
      refine ⟨rfl, ?_⟩
      refine ⟨_, rfl, a2, _, 1, .str l2.fm.word, rfl, rfl, SqT.tk ha2 (Same.tk s), rfl, rfl, _, g, ?_, fun b o e => ?_, ?_⟩
      · rw [List.length_map, List.length_take, List.length_map]
        exact Nat.lt_of_le_of_lt (show min i lns.length ≤ 4000 by omega) (by decide)
      · rw [upd_ne (ne_of_none e hD2)]
        exact s _ _ e
      · rw [upd_same, take_more (l := lns.map fun l => decide (l.fm.word = ("add" : Str))) (i := i) (x := decide (l2.fm.word = ("add" : Str))) (by rw [List.getElem?_map, hl2]; rfl), List.map_append]
        rw [show decide (V.str l2.fm.word = V.str (Str.ofString "add")) = decide (l2.fm.word = ("add" : Str)) from decide_eq_decide.mpr ⟨V.str.inj, congrArg V.str⟩]
        rfl
    rintro H8 ⟨s8, g8⟩
    rw [xl, show lns.length = (lns.map fun l => decide (l.fm.word = ("add" : Str))).length by rw [List.length_map], List.take_length] at g8
    refine ⟨D2, _, rfl, SqL.of g8, _, rfl, ?_⟩
    have I := I.sm s8
    have gv4 := gv4.mv (Same.tk s8)
    refine ⟨_, rfl, x, T.c_Script, dx, f4, rfl, I.hx, XT.cl, XT.na5, Nat.lt_of_le_of_lt l4 (by decide), ?_⟩
    have gv4 := gv4.mv (tk_ins (o := .ins T.c_Script dx (putF "is_plain" (.bl (plainL lns)) f4)) I.hx)
    have I := I.put (fs' := putF "is_plain" (.bl (plainL lns)) f4) hx0 nl nk
    have l5 := putF_le "is_plain" (V.bl (plainL lns)) f4
    have e9 : upd H8 x (.ins T.c_Script dx (putF "is_plain" (.bl (!(lns.map fun l => decide (l.fm.word = ("add" : Str))).any id)) f4)) = upd H8 x (.ins T.c_Script dx (putF "is_plain" (.bl (plainL lns)) f4)) := rfl
    rw [e9]
    generalize upd H8 x (.ins T.c_Script dx (putF "is_plain" (.bl (plainL lns)) f4)) = H9 at *
    obtain ⟨f5, hf5⟩ : ∃ f, f = putF "is_plain" (V.bl (plainL lns)) f4 := ⟨_, rfl⟩
    rw [← hf5] at I l5
    have l5 : f5.length ≤ 5 := by omega
    refine ⟨_, rfl, _, rfl, x, T.c_Script, dx, f5, rfl, I.hx, XT.cl, XT.na6, Nat.lt_of_le_of_lt l5 (by decide), ?_⟩
    have gv4 := gv4.mv (tk_ins (o := .ins T.c_Script dx (putF "_gates_by_name" (.ref kd) f5)) I.hx)
    have I := I.put (fs' := putF "_gates_by_name" (.ref kd) f5) hx0 nl nk
    have l6 := putF_le "_gates_by_name" (V.ref kd) f5
    generalize upd H9 x (.ins T.c_Script dx (putF "_gates_by_name" (.ref kd) f5)) = H10 at *
    have lk : ∀ k : Str, (putF "_gates_by_name" (V.ref kd) f5).lookup k = if k = ("_gates_by_name" : Str) then some (.ref kd) else if k = ("is_plain" : Str) then some (.bl (plainL lns)) else if k = ("width" : Str) then some (.int (widthL lns : Nat)) else
        if k = ("gates" : Str) then some (.ref g0) else if k = ("lines" : Str) then some (.ref lt) else if k = ("text" : Str) then some (.str (z)) else none := fun k => by
      rw [lookup_putF, hf5, lookup_putF, hf4, lookup_putF, hf3, lookup_putF, hf2, lookup_putF, hf1, lookup_putF]
      rfl
    refine q H10 I.s ⟨dx, lt, kd, g0, _, xs, kvs, I.hx, by omega, ?_, ?_, I.gl, I.td, ?_, ?_, ?_, ?_, ?_, I.gk, I.kn, ?_⟩
    · rw [lk, if_neg (by decide +kernel), if_neg (by decide +kernel), if_neg (by decide +kernel), if_neg (by decide +kernel), if_neg (by decide +kernel), if_pos rfl]
    · rw [lk, if_neg (by decide +kernel), if_neg (by decide +kernel), if_neg (by decide +kernel), if_neg (by decide +kernel), if_pos rfl]
    · rw [lk, if_neg (by decide +kernel), if_neg (by decide +kernel), if_neg (by decide +kernel), if_pos rfl]
    · rw [eG]
      exact gv4
    · rw [lk, if_neg (by decide +kernel), if_neg (by decide +kernel), if_pos rfl]
    · rw [lk, if_neg (by decide +kernel), if_pos rfl]
    · rw [lk, if_pos rfl]
    · rw [lk, if_neg (by decide +kernel), if_neg (by decide +kernel), if_neg (by decide +kernel), if_neg (by decide +kernel), if_neg (by decide +kernel), if_neg (by decide +kernel)]
end
end OG
set_option Elab.async false
set_option linter.all false
set_option maxRecDepth 100000
set_option maxHeartbeats 8000000
namespace OG
open PySem PySem.Spec PyProof.Rows L2 OGX
/-! the law's own reading -/
section
variable {P : Program} {w : World} {K : PySem.W.Frag} {mg : Str → Option Value} {base : Heap}
def spLInt : Sp := fun vs H Q _ => ∃ (w : Str), vs = [.str w] ∧ w.length ≤ 10000000 ∧ ∀ H', Same H H' → Q (oint (numQ 1000 (tl w)) (numV (tl w))) H'
theorem cut1_iff (w : Str) : decide (V.str (cutS w none (some 1)) = V.str "-") = decide ((tl w).head? = some 45) := by
  rw [str_eq]
  have e1 : tl (cutS w none (some 1)) = (tl w).take 1 := by
    unfold cutS
    show (((tl w).drop (HT.sIx w.length 0 none)).take (HT.sIx w.length w.length (some ((1 : Nat) : Int)) - HT.sIx w.length 0 none)).toArray.toList = _
    rw [HT.sIx_none, HT.sIx_nat, List.drop_zero, Nat.sub_zero, TL.len_tl]
    show (tl w).take (min 1 (tl w).length) = _
    rw [List.take_eq_take_iff]
    omega
  have e2 : tl ("-" : Str) = [45] := rfl
  rw [e1, e2]
  cases h : tl w with
  | nil => rfl
  | cons c r =>
    by_cases hc : c = 45
    · rw [hc]
      rfl
    · show decide ([c] = [45]) = decide (some c = some 45)
      rw [decide_eq_false (fun z => hc (List.cons.inj z).1), decide_eq_false (fun z => hc (Option.some.inj z))]
theorem cut_tail (w : Str) : tl (cutS w (some 1) none) = (tl w).drop 1 := by
  unfold cutS
  show (((tl w).drop (HT.sIx w.length 0 (some ((1 : Nat) : Int)))).take (HT.sIx w.length w.length none - HT.sIx w.length 0 (some ((1 : Nat) : Int)))).toArray.toList = _
  rw [HT.sIx_none, HT.sIx_nat, TL.len_tl]
  show ((tl w).drop (min 1 (tl w).length)).take ((tl w).length - min 1 (tl w).length) = _
  cases h : tl w with
  | nil => rfl
  | cons c r =>
    rw [List.length_cons, show min 1 (r.length + 1) = 1 by omega, List.drop_succ_cons, List.drop_zero, Nat.add_sub_cancel, List.take_length]
theorem ok_l_script_integer (T : Txt K mg) : FnOk P w K mg base CX0 1 T.f_l_script_integer T.fd_l_script_integer ["word"] (spLInt) := by
  refine T.F_l_script_integer.ok sc_l_script_integer (fun vs H Q E h => ?_) (fun cdv A outer s H vs Q E hr h => ?_)
  · obtain ⟨w, rfl, _⟩ := h
    rfl
  · obtain ⟨w, rfl, hl, q⟩ := h
    refine ⟨_, (pss_cons (ps_set (i := 1) sc_l_script_integer.nd rfl (Or.inl rfl) (pe_ifExp (pt_cmpR op_eq (pe_slice sl_str (pv 0) po_none (po_some pe_int)) pe_str (nomark _)) (pe_slice sl_str (pv 0) (po_some pe_int) po_none) (pv 0)))
  (pss_cons (ps_if (PW.pt (pw_or (pt_not (pt_chain op_le op_le pe_int (pe_callB call_len_str (by rfl) T.n_len PySem.boot_len (pa_cons (pv 1) pa_nil)) pe_int)) (pw_or1 (pt_not (pt_val (pe_callB (cr_all rfl) (by rfl) T.n_all (by decide +kernel) (pa_cons (pe_lc (own := [("sign", 2)]) (g := gName 2) (by rfl) sc_l_script_integer.nd (pi_str (pv 1)) (blkOk_by (own := [("sign", 2)]) (by rfl)) (fun _ _ _ _ _ => (pg_name (i := 2) sc_l_script_integer.nd rfl (Or.inl rfl))) (fun _ _ _ _ _ => pts_nil) (fun _ _ _ _ _ => (pe_cmpR op_in_sign (pv 2) pe_str rfl))) pa_nil))))))) (pss_one (ps_ret pe_non)) pss_nil)
  (pss_one (ps_ret (pe_ifExp (PW.pt (pw_and (pt_cmpR op_eq (pe_ix ix_str (pv 1) pe_int (fun _ _ => rfl)) pe_str (nomark _)) (pw_and1 (pt_cmpR op_ne (pv 0) pe_str (nomark _))))) pe_non (pe_callTy (OGX.call_int_strL T.dig) (by rfl) T.n_int (by decide +kernel) (pa_cons (pv 0) pa_nil))))))), ?_⟩
    have no : ∀ H', Same H H' → numQ 1000 (tl w) = false → Q .non H' := fun H' s' e => by
      have e2 := q H' s'
      rw [e] at e2
      exact e2
    refine seq_fin (fun σ' H' => ∃ f : Str, σ' = [some (.str w), some (.str f), none] ∧ H' = H ∧ tl f = figs (tl w)) ?_ (fun fin => ?_)
    · rintro σ' H' ⟨f, rfl, rfl, hft⟩
      have hfl : f.length = (figs (tl w)).length := by rw [TL.len_tl]; exact congrArg List.length hft
      have hfw : f.length ≤ 10000000 := by
        have := figs_le (tl w)
        rw [hfl]
        rw [TL.len_tl] at hl
        exact Nat.le_trans this hl
      refine ⟨.str f, rfl, f, rfl, le_line (by omega), _, _, rfl, rfl, _, rfl, ?_⟩
      have bad : (decide (1 ≤ (f.length : Int)) && decide ((f.length : Int) ≤ 1000)) = false → numQ 1000 (tl w) = false := fun e => by
        unfold numQ
        rw [← hfl]
        have e1 : decide (1 ≤ f.length) = decide (1 ≤ (f.length : Int)) := by
          rw [decide_eq_decide]
          omega
        have e2 : decide (f.length ≤ 1000) = decide ((f.length : Int) ≤ 1000) := by
          rw [decide_eq_decide]
          omega
        rw [e1, e2, e]
        rfl
      have back : (decide (1 ≤ (f.length : Int)) && decide ((f.length : Int) ≤ 1000)) = true → ∀ g : Bool, numQ 1000 (tl w) = (digs (figs (tl w)) && !(decide ((figs (tl w)).head? = some 48) && !decide (tl w = [48]))) := fun e _ => by
        rw [Bool.and_eq_true, decide_eq_true_eq, decide_eq_true_eq] at e
        unfold numQ
        rw [decide_eq_true (show 1 ≤ (figs (tl w)).length by omega), decide_eq_true (show (figs (tl w)).length ≤ 1000 by omega)]
        rfl
      refine ite2 (fun h1 => ?_) (fun h1 => ?_)
      · refine ⟨_, _, rfl, rfl, _, rfl, ?_⟩
        generalize hc2 : decide ((f.length : Int) ≤ 1000) = c2
        cases c2 with
        | false => exact no H' (Same.refl _) (bad (by rw [hc2, Bool.and_false]))
        | true =>
          have bk := back (by rw [hc2, Bool.and_true]; exact h1) true
          have h1 : 1 ≤ (f.length : Int) := of_decide_eq_true h1
          refine ⟨.str f, rfl, f, rfl, fun D hD => ?_⟩
          refine lc_signs (x := f) (fun c => decide (c ∈ tl ("0123456789" : Str))) (by omega) hD (fun c H' Q' hq => ?_) (fun _ => rfl) (fun H6 s6 h6 => ?_)
          · exact ⟨_, rfl, c, _, rfl, rfl, hq⟩
          · refine ⟨D, _, rfl, SqL.of h6, ?_⟩
            have ed : (((tl f).map fun c => decide (c ∈ tl ("0123456789" : Str))).all id) = digs (figs (tl w)) := by
              rw [all_id, hft]
              unfold digs
              congr 1
              funext c
              exact fig_mem c
            rw [ed]
            refine ⟨_, rfl, ?_⟩
            cases hdg : digs (figs (tl w)) with
            | false =>
              refine no H6 s6 ?_
              rw [bk, hdg]
              rfl
            | true =>
              rw [hdg] at bk
              have fin2 : ∀ H2, Same H' H2 → numQ 1000 (tl w) = true → ∃ (a : Str) (n_1 : Int), [V.str w] = [V.str a] ∧ PySem.intText? a = some n_1 ∧ a.length ≤ sizeLine ∧ a.cps.all (· < 128) = true ∧ Q (.int n_1) H2 := fun H2 s2 e => by
                have nq := numQ_iff.mp e
                have wl := nq.len
                refine ⟨w, _, rfl, intText_num nq (by omega), le_line (by omega), nq.ascii, ?_⟩
                have e2 := q H2 s2
                rw [e] at e2
                exact e2
              obtain ⟨c, r, hcr⟩ : ∃ c r, tl f = c :: r := by
                cases e : tl f with
                | nil =>
                  rw [TL.len_tl] at h1
                  have h1' : 1 ≤ (((tl f).length : Nat) : Int) := h1
                  rw [e] at h1'
                  exact absurd h1' (by decide)
                | cons c r => exact ⟨c, r, rfl⟩
              refine ⟨.str f, rfl, f, ((0 : Nat) : Int), c, rfl, rfl, le_line (by omega), atI_nat (by show (tl f)[0]? = some c; rw [hcr]; rfl), rfl, _, rfl, ?_⟩
              have eh : decide (V.str ⟨#[c]⟩ = V.str "0") = decide ((figs (tl w)).head? = some 48) := by
                rw [str_eq, ← hft, hcr]
                show decide ([c] = [48]) = decide (some c = some 48)
                by_cases hc : c = 48
                · rw [hc]
                  rfl
                · rw [decide_eq_false (fun z => hc (List.cons.inj z).1), decide_eq_false (fun z => hc (Option.some.inj z))]
              rw [eh]
              refine ite2 (fun hs => ?_) (fun hs => ?_)
              · refine ⟨.str w, rfl, rfl, _, rfl, ?_⟩
                rw [str_eq]
                have e48 : tl ("0" : Str) = [48] := rfl
                rw [e48]
                rw [of_decide_eq_true hs] at bk
                cases hw : decide (tl w = [48]) with
                | false =>
                  refine no H6 s6 ?_
                  rw [bk, hw]
                  rfl
                | true =>
                  refine ⟨_, rfl, fin2 H6 s6 ?_⟩
                  rw [bk, hw]
                  rfl
              · refine ⟨_, rfl, fin2 H6 s6 ?_⟩
                rw [bk, Bool.eq_false_iff.mpr hs]
                rfl
      · have h1 := Bool.eq_false_iff.mpr h1
        exact ⟨_, rfl, no H' (Same.refl _) (bad (by rw [h1, Bool.false_and]))⟩
    · refine ⟨.str w, rfl, _, rfl, w, rfl, le_line (by omega), rfl, _, rfl, ?_⟩
      rw [cut1_iff]
      refine ite2 (fun h => ?_) (fun h => ?_)
      · refine ⟨.str w, rfl, _, rfl, w, rfl, le_line (by omega), fin _ _ ⟨_, rfl, rfl, ?_⟩⟩
        have h : (tl w).head? = some 45 := of_decide_eq_true h
        rw [cut_tail]
        cases e : tl w with
        | nil =>
          rw [e] at h
          cases h
        | cons c r =>
          rw [e] at h
          have ec : c = 45 := Option.some.inj h
          rw [ec]
          rfl
      · refine ⟨.str w, rfl, fin _ _ ⟨w, rfl, rfl, ?_⟩⟩
        have h : ¬ (tl w).head? = some 45 := of_decide_eq_false (Bool.eq_false_iff.mpr h)
        cases e : tl w with
        | nil => rfl
        | cons c r =>
          rw [e] at h
          exact (figs_pos (fun z => h (by rw [z]; rfl))).symm
def spLWord : Sp := fun vs H Q _ => ∃ (w : Str) (n : Nat), vs = [.str w, .int (n : Int)] ∧ w.length ≤ 10000000 ∧ ∀ H', Same H H' → Q (.bl (isNmB n w)) H'
theorem ok_l_script_is_word (T : Txt K mg) : FnOk P w K mg base CX0 1 T.f_l_script_is_word T.fd_l_script_is_word ["word", "most"] (spLWord) := by
  refine T.F_l_script_is_word.ok sc_l_script_is_word (fun vs H Q E h => ?_) (fun cdv A outer s H vs Q E hr h => ?_)
  · obtain ⟨w, n, rfl, _⟩ := h
    rfl
  · obtain ⟨w, n, rfl, hl, q⟩ := h
    refine ⟨_, (pss_one (ps_ret (pe_and (pe_chain op_le op_le pe_int (pe_callB call_len_str (by rfl) T.n_len PySem.boot_len (pa_cons (pv 0) pa_nil)) (pv 1)) (pe_one (pe_callB (cr_all rfl) (by rfl) T.n_all (by decide +kernel) (pa_cons (pe_lc (own := [("sign", 2)]) (g := gName 2) (by rfl) sc_l_script_is_word.nd (pi_str (pv 0)) (blkOk_by (own := [("sign", 2)]) (by rfl)) (fun _ _ _ _ _ => (pg_name (i := 2) sc_l_script_is_word.nd rfl (Or.inl rfl))) (fun _ _ _ _ _ => pts_nil) (fun _ _ _ _ _ => (pe_cmpR op_in_sign (pv 2) pe_str rfl))) pa_nil)))))), ?_⟩
    have no : isNmB n w = false → Q (.bl false) H := fun e => by
      have e2 := q H (Same.refl H)
      rw [e] at e2
      exact e2
    refine ⟨.str w, rfl, w, rfl, le_line (by omega), _, _, rfl, rfl, _, rfl, ?_⟩
    refine ite2 (fun h1 => ?_) (fun h1 => ?_)
    · have h1 : 1 ≤ (w.length : Int) := of_decide_eq_true h1
      refine ⟨_, rfl, _, _, rfl, rfl, _, rfl, ?_⟩
      refine ite2 (fun h2 => ?_) (fun h2 => ?_)
      · have h2 : (w.length : Int) ≤ n := of_decide_eq_true h2
        refine ⟨.str w, rfl, w, rfl, fun D hD => ?_⟩
        refine lc_signs (x := w) (fun c => decide (c ∈ tl ("abcdefghijklmnopqrstuvwxyz" : Str))) (by omega) hD (fun c H' Q' hq => ?_) (fun _ => rfl) (fun H6 s6 h6 => ?_)
        · exact ⟨_, rfl, c, _, rfl, rfl, hq⟩
        · refine ⟨D, _, rfl, SqL.of h6, ?_⟩
          rw [all_id]
          have e := q H6 s6
          unfold isNmB isOf at e
          rw [decide_eq_true (show w.length ≤ n by omega), decide_eq_true (show 0 < w.length by omega), Bool.true_and, Bool.true_and] at e
          exact e
      · have h2 : ¬ (w.length : Int) ≤ n := of_decide_eq_false (Bool.eq_false_iff.mpr h2)
        refine no ?_
        unfold isNmB
        rw [decide_eq_false (show ¬ w.length ≤ n by omega), Bool.false_and]
    · have h1 : ¬ 1 ≤ (w.length : Int) := of_decide_eq_false (Bool.eq_false_iff.mpr h1)
      refine ⟨_, rfl, no ?_⟩
      unfold isNmB isOf
      rw [decide_eq_false (show ¬ 0 < w.length by omega), Bool.false_and, Bool.and_false]
def spLNm : Sp := fun vs H Q _ => ∃ (w : Str), vs = [.str w] ∧ w.length ≤ 5000000 ∧ ∀ H', Same H H' → Q (.bl (lnmB w)) H'
theorem ok_l_script_is_name (T : Txt K mg) : FnOk P w K mg base CX0 2 T.f_l_script_is_name T.fd_l_script_is_name ["word"] (spLNm) := by
  refine T.F_l_script_is_name.ok sc_l_script_is_name (fun vs H Q E h => ?_) (fun cdv A outer s H vs Q E hr h => ?_)
  · obtain ⟨w, rfl, _⟩ := h
    rfl
  · obtain ⟨z, rfl, hz, q⟩ := h
    refine ⟨_, (pss_cons (ps_set (i := 1) sc_l_script_is_name.nd rfl (Or.inl rfl) (pe_bm PySem.F.plainAttrs_str PySem.F.slot_str_rstrip PySem.F.type_str_rstrip mt_rstripChars (pv 0) (pa_cons pe_str pa_nil)))
  (pss_cons (ps_if (PW.pt (pw_or (pt_cmpR op_gt (pe_op op_sub (pe_callB call_len_str (by rfl) T.n_len PySem.boot_len (pa_cons (pv 0) pa_nil)) (pe_callB call_len_str (by rfl) T.n_len PySem.boot_len (pa_cons (pv 1) pa_nil))) pe_int (nomark _)) (pw_or1 (pt_not (pt_val (pe_call (ok_l_script_is_word T) (hr.mono (by decide)) (by rfl) T.g_l_script_is_word T.F_l_script_is_word.kp T.b_l_script_is_word .nil pass0 (pa_cons (pv 1) (pa_cons pe_int pa_nil)))))))) (pss_one (ps_ret pe_bl)) pss_nil)
  (pss_one (ps_ret (pe_cmpR op_notIn_seq (pv 0) (pe_tup (pa_cons pe_str (pa_cons pe_str (pa_cons pe_str (pa_cons pe_str (pa_cons pe_str (pa_cons pe_str (pa_cons pe_str pa_nil)))))))) rfl))))), ?_⟩
    have wide : ∀ {n : Nat}, n ≤ 10000000 → n ≤ sizeLine := fun h => Nat.le_trans h (by decide)
    obtain ⟨y, ey⟩ : ∃ y, y = Txt.rstripChars z "0123456789" := ⟨_, rfl⟩
    have yl : y.length ≤ z.length := by
      rw [ey]
      exact strip_len z _
    refine ⟨_, rfl, rfl, z, _, rfl, rfl, wide (by omega), ?_⟩
    rw [← ey]
    unfold lnmB at q
    rw [← ey] at q
    refine ⟨_, rfl, z, rfl, wide (by omega), _, rfl, y, rfl, wide (by omega), _, _, rfl, rfl, _, _, rfl, rfl, _, rfl, ?_⟩
    by_cases e2 : z.length - y.length ≤ 9
    case neg =>
      refine iteT' (decide_eq_true (show (9 : Int) < (z.length : Int) - (y.length : Int) by omega)) ?_
      refine iteT' rfl ?_
      have := q H (Same.refl _)
      rw [decide_eq_false e2, Bool.false_and, Bool.and_false] at this
      exact this
    refine iteF' (fun h => by have := of_decide_eq_true h; omega) ?_
    refine ⟨_, rfl, y, 6, rfl, by omega, fun H1 s1 => ?_⟩
    refine ⟨_, rfl, ?_⟩
    have q := fun H' s => q H' s
    rw [decide_eq_true e2] at q
    cases e1 : isNmB 6 y with
    | false =>
      refine iteT ?_
      have := q H1 s1
      rw [e1, Bool.false_and] at this
      exact this
    | true =>
      refine iteF ?_
      refine ⟨_, rfl, wide (show 7 ≤ 10000000 by decide), fun t ht => ⟨t, (["script", "around", "one", "road", "close", "turn", "add"] : List Str).map V.str, rfl, .inr (SqT.of upd_same), rfl, flat_strs _, ?_⟩⟩
      rw [inV_str]
      have := q _ (s1.trans (same_new (o := .tup (((["script", "around", "one", "road", "close", "turn", "add"] : List Str)).map V.str)) ht))
      rw [e1, Bool.true_and, Bool.true_and] at this
      exact this
def gI : Option Int → Int
  | some g => g
  | none => 0
def spLGate : Sp := fun vs H Q _ => ∃ (z : Str), vs = [.str z] ∧ ∀ H', Same H H' → Q (.int (gI (gateR z))) H'
theorem ok_l_script_gate (T : Txt K mg) : FnOk P w K mg base CX0 1 T.f_l_script_gate T.fd_l_script_gate ["word"] (spLGate) := by
  refine T.F_l_script_gate.ok sc_l_script_gate (fun vs H Q E h => ?_) (fun cdv A outer s H vs Q E hr h => ?_)
  · obtain ⟨z, rfl, _⟩ := h
    rfl
  · obtain ⟨z, rfl, q⟩ := h
    refine ⟨_, (pss_one (ps_ret (pe_ifExp (pt_cmpR op_in_seq (pv 0) (pe_tup (pa_cons pe_str (pa_cons pe_str (pa_cons pe_str (pa_cons pe_str pa_nil))))) rfl) (pe_callTy (OGX.call_int_strL T.dig) (by rfl) T.n_int (by decide +kernel) (pa_cons (pv 0) pa_nil)) pe_int))), ?_⟩
    have wide : ∀ {n : Nat}, n ≤ 1000 → n ≤ sizeLine := fun h => Nat.le_trans h (by decide)
    refine ⟨_, rfl, wide (show 4 ≤ 1000 by decide), fun t ht => ⟨t, gateW.map V.str, rfl, .inr (SqT.of upd_same), rfl, flat_strs _, _, rfl, ?_⟩⟩
    rw [inV_str]
    have q := q _ (same_new (o := .tup (gateW.map V.str)) ht)
    unfold gateR at q
    by_cases m : z ∈ gateW
    · rw [if_pos m] at q
      obtain ⟨_, m2, m3, m4⟩ := gateW_at m
      rw [decide_eq_true m]
      refine iteT ?_
      exact ⟨_, rfl, z, _, rfl, m2, wide (by omega), m4, q⟩
    · rw [if_neg m] at q
      rw [decide_eq_false m]
      exact iteF q
end
end OG
set_option Elab.async false
set_option linter.all false
set_option maxRecDepth 100000
set_option maxHeartbeats 8000000
namespace OG
open PySem PySem.Spec PyProof.Rows L2 OGX
theorem numQ_big {l : List Nat} (h : numQ 1000 l = true) : (numV l).natAbs < 2 ^ 4000 := by
  have nq := numQ_iff.mp h
  have h1 := nq.lt
  have h2 : (figs l).length ≤ 1000 := nq.fn
  have h3 : 10 ^ (figs l).length ≤ 10 ^ 1000 := Nat.pow_le_pow_right (by decide) h2
  exact Nat.lt_of_lt_of_le (Nat.lt_of_lt_of_le h1 h3) (by decide +kernel)
theorem redF_same {t b : Int} (h : 2 ≤ b) : (redF t b = (t, b)) ↔ Nat.gcd t.natAbs b.natAbs = 1 := by
  unfold redF
  constructor
  · intro e
    have e2 : b / ((Nat.gcd t.natAbs b.natAbs : Nat) : Int) = b := congrArg Prod.snd e
    have gp : 0 < Nat.gcd t.natAbs b.natAbs := Nat.gcd_pos_of_pos_right _ (by omega)
    by_cases g1 : Nat.gcd t.natAbs b.natAbs = 1
    · exact g1
    · exfalso
      have g2 : (2 : Int) ≤ ((Nat.gcd t.natAbs b.natAbs : Nat) : Int) := by omega
      have : b / ((Nat.gcd t.natAbs b.natAbs : Nat) : Int) < b := Int.ediv_lt_self_of_pos_of_ne_one (by omega) (by omega) 
      omega
  · intro e
    rw [e]
    simp
def facV (o : Option Fac) : PyData := facO o
section
variable {P : Program} {w : World} {K : PySem.W.Frag} {mg : Str → Option Value} {base : Heap}
theorem ok_l_script_factor (T : Txt K mg) : FnOk P w K mg base CX0 3 T.f_l_script_factor T.fd_l_script_factor ["word"] (spFacOf) := by
  refine T.F_l_script_factor.ok sc_l_script_factor (fun vs H Q E h => ?_) (fun cdv A outer s H vs Q E hr h => ?_)
  · obtain ⟨z, rfl, _⟩ := h
    rfl
  · obtain ⟨z, rfl, hz, qn, qs⟩ := h
    refine ⟨_, (pss_cons (ps_asg (pe_partition (pv 0) pe_str) (pg_tup (by rfl) (pgs_cons (pg_name (i := 1) sc_l_script_factor.nd rfl (Or.inl rfl)) (pgs_cons (pg_name (i := 2) sc_l_script_factor.nd rfl (Or.inl rfl)) (pgs_cons (pg_name (i := 3) sc_l_script_factor.nd rfl (Or.inl rfl)) pgs_nil)))))
  (pss_cons (ps_par (i := 4) (j := 5) (by rfl) sc_l_script_factor.nd rfl rfl (by decide) rfl rfl (pa_cons (pe_call (ok_l_script_integer T) (hr.mono (by decide)) (by rfl) T.g_l_script_integer T.F_l_script_integer.kp T.b_l_script_integer .nil pass0 (pa_cons (pv 1) pa_nil)) (pa_cons (pe_ifExp (pt_cmpR op_eq (pv 2) pe_str (nomark _)) pe_int (pe_call (ok_l_script_integer T) (hr.mono (by decide)) (by rfl) T.g_l_script_integer T.F_l_script_integer.kp T.b_l_script_integer .nil pass0 (pa_cons (pv 3) pa_nil))) pa_nil)) (by rfl))
  (pss_cons (ps_if (PW.pt (pw_or (pt_cmpR op_isN (pv 4) pe_non (nomark _)) (pw_or (pt_cmpR op_isN (pv 5) pe_non (nomark _)) (pw_or1 (PW.pt (pw_and (pt_cmpR op_ne (pv 2) pe_str (nomark _)) (pw_and1 (PW.pt (pw_or (pt_cmpR op_lt (pv 5) pe_int (nomark _)) (pw_or1 (pt_cmpR (op_neD hr.units) (pe_call (ok_l_num T) (hr.mono (by decide)) (by rfl) T.g_l_num T.F_l_num.kp T.b_l_num .nil pass0 (pa_cons pe_int (pa_cons (pv 4) (pa_cons (pv 5) pa_nil)))) (pe_tup (pa_cons (pv 4) (pa_cons (pv 5) pa_nil))) (nomark _)))))))))))) (pss_one (ps_ret pe_non)) pss_nil)
  (pss_one (ps_ret (pe_tup (pa_cons (pv 4) (pa_cons (pv 5) pa_nil)))))))), ?_⟩
    have wide : ∀ {n : Nat}, n ≤ 10000000 → n ≤ sizeLine := fun h => Nat.le_trans h (by decide)
    refine ⟨_, rfl, ⟨_, rfl⟩, _, _, rfl, rfl, rfl, wide (by omega), fun p hp => ?_⟩
    obtain ⟨l1, l2, l3⟩ := fact_partition z "/"
    obtain ⟨a, sl, b, ep⟩ : ∃ a sl b, Txt.partition z "/" = (a, sl, b) := ⟨_, _, _, rfl⟩
    have fr : facR z = if numQ 1000 (tl a) = true then (if sl = "" then some (numV (tl a), 1) else if numQ 1000 (tl b) = true ∧ 2 ≤ numV (tl b) ∧ Nat.gcd (numV (tl a)).natAbs (numV (tl b)).natAbs = 1 then some (numV (tl a), numV (tl b)) else none) else none := by
      unfold facR
      rw [ep]
    rw [fr] at qn
    rw [fr] at qs
    rw [ep] at l1 l2 l3 ⊢
    have l1 : a.length ≤ z.length := l1
    have l2 : sl.length ≤ z.length := l2
    have l3 : b.length ≤ z.length := l3
    clear ep fr
    have s0 := same_new (o := .tup [.str a, .str sl, .str b]) hp
    have g0 : (upd H p (.tup [.str a, .str sl, .str b])) p = some (.tup [.str a, .str sl, .str b]) := upd_same
    generalize upd H p (.tup [.str a, .str sl, .str b]) = H1 at *
    refine ⟨p, _, rfl, SqT.of g0, rfl, _, _, rfl, _, _, rfl, _, _, rfl, rfl, ?_⟩
    refine ⟨_, rfl, a, rfl, by omega, fun H2 s2 => ?_⟩
    have s02 := s0.trans s2
    refine ⟨_, rfl, rfl, _, rfl, ?_⟩
    cases q1 : numQ 1000 (tl a) with
    | false =>
      have qN : ∀ H', Same H H' → Q .non H' := qn (by rw [if_neg (by rw [q1]; decide)])
      by_cases e : sl = ""
      · subst e
        refine iteT' rfl ?_
        refine ⟨_, _, rfl, ?_⟩
        refine ⟨_, rfl, rfl, _, rfl, ?_⟩
        refine iteT' rfl ?_
        refine iteT' rfl ?_
        exact qN _ s02
      · refine iteF' (fun h => e (V.str.inj (of_decide_eq_true h))) ?_
        refine ⟨_, rfl, b, rfl, by omega, fun H3 s3 => ?_⟩
        refine ⟨_, _, rfl, ?_⟩
        refine ⟨_, rfl, rfl, _, rfl, ?_⟩
        refine iteT' rfl ?_
        refine iteT' rfl ?_
        exact qN _ (s02.trans s3)
    | true =>
      have n1b := numQ_big q1
      have tv : oint true (numV (tl a)) = .int (numV (tl a)) := rfl
      rw [tv]
      rw [if_pos q1] at qn
      rw [if_pos q1] at qs
      generalize numV (tl a) = n1 at *
      by_cases e : sl = ""
      · rw [if_pos e] at qs
        subst e
        refine iteT' rfl ?_
        refine ⟨_, _, rfl, ?_⟩
        refine ⟨_, rfl, rfl, _, rfl, ?_⟩
        refine iteF' (by simp) ?_
        refine ⟨_, rfl, rfl, _, rfl, ?_⟩
        refine iteF' (by simp) ?_
        refine ⟨_, rfl, rfl, _, rfl, ?_⟩
        refine iteF' (by decide) ?_
        refine iteF ?_
        exact ⟨_, rfl, _, rfl, wide (show 2 ≤ 10000000 by decide), fun c hc => qs (n1, 1) c _ rfl (s02.trans (same_new hc)) upd_same⟩
      · rw [if_neg e] at qs qn
        refine iteF' (fun h => e (V.str.inj (of_decide_eq_true h))) ?_
        refine ⟨_, rfl, b, rfl, by omega, fun H3 s3 => ?_⟩
        have s03 := s02.trans s3
        refine ⟨_, _, rfl, ?_⟩
        refine ⟨_, rfl, rfl, _, rfl, ?_⟩
        refine iteF' (by simp) ?_
        cases q2 : numQ 1000 (tl b) with
        | false =>
          have qN : ∀ H', Same H H' → Q .non H' := qn (by rw [if_neg (fun z => by rw [q2] at z; cases z.1)])
          refine ⟨_, rfl, rfl, _, rfl, ?_⟩
          refine iteT' rfl ?_
          refine iteT' rfl ?_
          exact qN _ s03
        | true =>
          have n2b := numQ_big q2
          have tv : oint true (numV (tl b)) = .int (numV (tl b)) := rfl
          rw [tv]
          generalize numV (tl b) = n2 at *
          refine ⟨_, rfl, rfl, _, rfl, ?_⟩
          refine iteF' (by simp) ?_
          refine ⟨_, rfl, rfl, _, rfl, ?_⟩
          refine iteT' (by rw [decide_eq_false fun z => e (V.str.inj z)]; rfl) ?_
          refine ⟨_, rfl, _, _, rfl, rfl, _, rfl, ?_⟩
          by_cases lt2 : n2 < 2
          · have qN : ∀ H', Same H H' → Q .non H' := qn (by rw [if_neg (fun z => by have := z.2.1; omega)])
            refine iteT' (decide_eq_true lt2) ?_
            refine iteT' rfl ?_
            exact qN _ s03
          refine iteF' (fun h => lt2 (of_decide_eq_true h)) ?_
          refine ⟨_, rfl, _, rfl, n1, n2, _, rfl, by omega, n2b, n1b, Nat.le_refl _, fun c hc => ?_⟩
          have sc := same_new (o := .tup [.int (redF n1 n2).1, .int (redF n1 n2).2]) hc
          have gc : (upd H3 c (.tup [.int (redF n1 n2).1, .int (redF n1 n2).2])) c = some (.tup [.int (redF n1 n2).1, .int (redF n1 n2).2]) := upd_same
          generalize upd H3 c (.tup [.int (redF n1 n2).1, .int (redF n1 n2).2]) = H4 at *
          refine ⟨_, rfl, _, rfl, wide (show 2 ≤ 10000000 by decide), fun d hd => ?_⟩
          have sd := same_new (o := .tup [.int n1, .int n2]) hd
          have tdc : Td K (upd H4 d (.tup [.int n1, .int n2])) (.ref c) (gsD [(redF n1 n2).1, (redF n1 n2).2]) := td_gs (SqT.of (sd _ _ gc))
          have tdd : Td K (upd H4 d (.tup [.int n1, .int n2])) (.ref d) (gsD [n1, n2]) := td_gs (SqT.of upd_same)
          refine ⟨_, _, tdc.dp, tdd.dp, shaped_ints _, shaped_ints _, _, rfl, ?_⟩
          rw [eqv_gs]
          by_cases gg : Nat.gcd n1.natAbs n2.natAbs = 1
          · have er := (redF_same (t := n1) (b := n2) (by omega)).mpr gg
            rw [er]
            refine iteF' (by rw [decide_eq_true rfl]; decide) ?_
            exact ⟨_, rfl, _, rfl, wide (show 2 ≤ 10000000 by decide), fun c hc => qs (n1, n2) c _ (by rw [if_pos ⟨q2, by omega, gg⟩]) (((s03.trans sc).trans sd).trans (same_new hc)) upd_same⟩
          · have qN : ∀ H', Same H H' → Q .non H' := qn (by rw [if_neg (fun z => gg z.2.2)])
            refine iteT' (by rw [decide_eq_false]; rfl; intro z; exact gg ((redF_same (t := n1) (b := n2) (by omega)).mp (Prod.ext (List.cons.inj z).1 (List.cons.inj (List.cons.inj z).2).1))) ?_
            exact qN _ ((s03.trans sc).trans sd)
end
end OG
set_option Elab.async false
set_option linter.all false
set_option maxRecDepth 100000
set_option maxHeartbeats 8000000
namespace OG
open PySem PySem.Spec PyProof.Rows L2
theorem same_put {H : Hp} {d : Addr} {u o : HO} (h : H d = none) : Same H (upd (upd H d u) d o) := fun b x e => by
  rw [upd_ne (ne_of_none e h), upd_ne (ne_of_none e h)]
  exact e
/-- each less than the next -/
def adjB (gs : List Int) : List Bool := (gs.zip (gs.drop 1)).map fun p => decide (p.1 < p.2)
theorem adj_pw : ∀ {gs : List Int}, (adjB gs).all id = true → gs.Pairwise (· < ·)
  | [], _ => .nil
  | [a], _ => by simp
  | a :: b :: r, h => by
    have h : (decide (a < b) :: adjB (b :: r)).all id = true := h
    rw [List.all_cons, Bool.and_eq_true] at h
    have ab : a < b := of_decide_eq_true h.1
    have ih := adj_pw (gs := b :: r) h.2
    refine List.pairwise_cons.mpr ⟨fun x hx => ?_, ih⟩
    rcases List.mem_cons.mp hx with rfl | hx
    · exact ab
    · have := (List.pairwise_cons.mp ih).1 x hx
      omega
theorem pw_adj : ∀ {gs : List Int}, gs.Pairwise (· < ·) → (adjB gs).all id = true
  | [], _ => rfl
  | [a], _ => rfl
  | a :: b :: r, h => by
    show (decide (a < b) :: adjB (b :: r)).all id = true
    have h := List.pairwise_cons.mp h
    rw [List.all_cons, Bool.and_eq_true]
    exact ⟨decide_eq_true (h.1 b List.mem_cons_self), pw_adj h.2⟩
theorem adj_asc {gs : List Int} (hr : ∀ g ∈ gs, 1 ≤ g ∧ g ≤ 4) : (adjB gs).all id = true ↔ gs = asc4 fun x => decide (x ∈ gs) := by
  constructor
  · intro h
    refine asc_ext (adj_pw h) (asc4_ok _).asc fun x => ?_
    rw [mem_asc4]
    exact ⟨fun m => ⟨hr x m, decide_eq_true m⟩, fun m => of_decide_eq_true m.2⟩
  · intro e
    rw [e]
    exact pw_adj (asc4_ok _).asc
section
variable {K : PySem.W.Frag} {a D : Addr} {sl : Nat} {tt : TT} {te : TE} {vs : List Nat} {σ : L2.St} {H1 : Hp} {Qd : Hp → Prop}
theorem lc_facL (es : List Str) (hl : es.length ≤ 10000000) (hD : H1 D = none) (hT : H1 a = some (.lst (es.map V.str))) (hw : ∀ x, wipe ((wipe σ vs).set sl (some x)) vs = wipe σ vs)
    (ht : ∀ x H' (Q : Bool → Hp → Prop), Q true H' → tt ((wipe σ vs).set sl (some x)) H' Q) (he : ∀ z H' (Q : VK), z ∈ es → Same H1 H' → (∀ y H2, Same H' H2 → FacAt H2 (facR z) y → Q y H2) → te ((wipe σ vs).set sl (some (.str z))) H' Q)
    (hd : ∀ H' ys, Same H1 H' → H' D = some (.lst ys) → ys.length = es.length → (∀ (j : Nat) (y : V) (o : Option Fac), ys[j]? = some y → (es.map facR)[j]? = some o → FacAt H' o y) → Qd H') :
    ∃ W : Nat → Nat → Hp → Prop, (∃ m, W 0 m (upd H1 D (.lst []))) ∧ ∀ i m H, W i m H →
      ((Itl K a).stop i H ∧ Qd H) ∨ ((Itl K a).go i H ∧ ∃ Nx : Hp → Prop, (∀ H', Nx H' → ∃ m', m' < m ∧ W (i + 1) m' H') ∧ ∀ x H', (Itl K a).yld i H x H' → gName sl x (wipe σ vs) H' fun σ2 H2 => wipe σ2 vs = wipe σ vs ∧ tt σ2 H2 fun b H3 =>
        if b = true then te σ2 H3 fun y H4 => ∃ acc, H4 D = some (.lst acc) ∧ acc.length < sizeLine ∧ Nx (upd H4 D (.lst (acc ++ [y]))) else Nx H3) := by
  refine lc_list (K := K) (a := a) (xs := es.map V.str) (fun i H' => Same H1 H' ∧ ∃ ys : List V, H' D = some (.lst ys) ∧ ys.length = i ∧ ∀ (j : Nat) (y : V) (z : Str), ys[j]? = some y → es[j]? = some z → FacAt H' (facR z) y)
    ⟨same_new hD, [], upd_same, rfl, fun j a f h => by simp at h⟩ (fun i H' _ ⟨s, _⟩ => SqL.of (s _ _ hT)) ?_ ?_
  · rintro i x H' hx ⟨s, ys, gD, hl', ha⟩
    obtain ⟨z, hz, rfl⟩ := str_at hx
    have hi := (List.getElem?_eq_some_iff.mp hz).1
    refine ⟨hw _, ht _ H' _ ?_⟩
    refine iteT ?_
    refine he z H' _ (List.mem_of_getElem? hz) s fun y H2 s2 hy => ?_
    have keep : ∀ {o : Option Fac} {v : V}, FacAt H2 o v → FacAt (upd H2 D (.lst (ys ++ [y]))) o v := fun {o v} h => by
      cases o with
      | none => exact h
      | some f =>
        obtain ⟨a, e, g⟩ := h
        refine ⟨a, e, ?_⟩
        rw [upd_ne (fun e => by
          rw [e, s2 _ _ gD] at g
          cases g)]
        exact g
    refine ⟨_, s2 _ _ gD, ?_, fun b u hu => ?_, ys ++ [y], upd_same, by rw [List.length_append, hl']; rfl, fun j b g hj hg => ?_⟩
    · rw [hl']
      exact Nat.lt_of_le_of_lt (show i ≤ 10000000 by omega) (by decide)
    · rw [upd_ne (ne_of_none hu hD)]
      exact s2 _ _ (s _ _ hu)
    · by_cases e : j < ys.length
      · rw [List.getElem?_append_left e] at hj
        exact keep ((ha j b g hj hg).ext s2)
      · rw [List.getElem?_append_right (by omega)] at hj
        have e0 : j - ys.length = 0 := by
          have := (List.getElem?_eq_some_iff.mp hj).1
          simp at this
          omega
        rw [e0] at hj
        cases Option.some.inj hj
        have ej : j = i := by omega
        rw [ej, hz] at hg
        cases Option.some.inj hg
        exact keep hy
  · rintro H' ⟨s, ys, gD, hl', ha⟩
    rw [List.length_map] at hl'
    refine hd H' ys s gD hl' fun j y o h1 h2 => ?_
    rw [List.getElem?_map] at h2
    cases e : es[j]? with
    | none =>
      rw [e] at h2
      cases h2
    | some z =>
      rw [e] at h2
      cases Option.some.inj h2
      exact ha j y z h1 e
end
end OG
set_option Elab.async false
set_option linter.all false
set_option maxRecDepth 100000
set_option maxHeartbeats 8000000
namespace OG
open PySem PySem.Spec PyProof.Rows L2 OGX
def glW (ws : List Str) : List Int := ws.map fun z => gI (gateR z)
theorem glW_some {ws : List Str} {gs : List Int} (h : allR gateR ws = some gs) : glW ws = gs := by
  have := allR_map h
  unfold glW
  rw [show (fun z => gI (gateR z)) = gI ∘ gateR from rfl, ← List.map_map, this, List.map_map]
  exact List.map_id' gs
theorem glW_none {ws : List Str} : (0 : Int) ∈ glW ws ↔ allR gateR ws = none := by
  constructor
  · intro h
    obtain ⟨z, hz, e⟩ := List.mem_map.mp h
    refine allR_none.mpr ⟨z, hz, ?_⟩
    cases eg : gateR z with
    | none => rfl
    | some g =>
      rw [eg] at e
      have := gateR_rng eg
      have e : g = 0 := e
      omega
  · intro h
    obtain ⟨z, hz, e⟩ := allR_none.mp h
    exact List.mem_map.mpr ⟨z, hz, by rw [e]; rfl⟩
theorem gs_rng {ws : List Str} {gs : List Int} (h : allR gateR ws = some gs) : ∀ g ∈ gs, 1 ≤ g ∧ g ≤ 4 := fun g hg => by
  obtain ⟨lg, ag⟩ := allR_some h
  obtain ⟨i, hi⟩ := List.getElem?_of_mem hg
  have li := (List.getElem?_eq_some_iff.mp hi).1
  obtain ⟨g', e1, e2⟩ := ag i (ws[i]'(by omega)) (List.getElem?_eq_getElem (by omega))
  rw [hi] at e1
  cases e1
  exact gateR_rng e2
theorem allR2 {α β : Type} {f : α → Option β} {a b : α} {ys : List β} (h : allR f [a, b] = some ys) : ∃ x y, f a = some x ∧ f b = some y ∧ ys = [x, y] := by
  unfold allR at h
  cases e1 : f a with
  | none => rw [e1] at h; cases h
  | some x =>
    unfold allR at h
    cases e2 : f b with
    | none => rw [e1, e2] at h; cases h
    | some y =>
      rw [e1, e2] at h
      cases h
      exact ⟨x, y, rfl, rfl, rfl⟩
theorem allR2n {α β : Type} {f : α → Option β} {a b : α} {x y : β} (h : allR f [a, b] = none) (e1 : f a = some x) (e2 : f b = some y) : False := by
  unfold allR at h
  rw [e1] at h
  unfold allR at h
  rw [e2] at h
  cases h
def fWs : List Str := ["one", "road", "close", "turn", "add"]
theorem cut_init (x : V) (r : List V) : cutV (r ++ [x]) none (some (-1)) = r := by
  unfold cutV
  have e1 : HT.sIx (r ++ [x]).length 0 none = 0 := rfl
  have e2 : HT.sIx (r ++ [x]).length (r ++ [x]).length (some (-1)) = r.length := by
    rw [List.length_append]
    show (((-1 : Int) + ((r.length + 1 : Nat) : Int)).toNat) = r.length
    omega
  rw [e1, e2, List.drop_zero, Nat.sub_zero]
  exact List.take_left' rfl
theorem cut_last (x : V) (r : List V) : cutV (r ++ [x]) (some (-1)) none = [x] := by
  unfold cutV
  have e1 : HT.sIx (r ++ [x]).length 0 (some (-1)) = r.length := by
    rw [List.length_append]
    show (((-1 : Int) + ((r.length + 1 : Nat) : Int)).toNat) = r.length
    omega
  have e2 : HT.sIx (r ++ [x]).length (r ++ [x]).length none = (r ++ [x]).length := rfl
  rw [e1, e2, List.drop_left' rfl, List.length_append, Nat.add_sub_cancel_left]
  rfl
theorem turn_test {K : PySem.W.Frag} {σ : L2.St} {H : Hp} {Q : Bool → Hp → Prop} {form : Str} {D : Addr} {gs : List Int} (h1 : σ[1]? = some (some (.str form))) (h3 : σ[3]? = some (some (.ref D))) (hD : SqL K H D (gs.map V.int)) (hc : form ≠ "turn" ∨ gs.length = 2)
    (q : Q (decide (form = "turn" ∧ gs[0]? = gs[1]?)) H) : tAnd (tTest (tOp rEq (tVar 1) (tC (.str "turn")))) (tTest (tOp rEq (tOp (rIxL K) (tVar 3) (tC (.int 0))) (tOp (rIxL K) (tVar 3) (tC (.int 1))))) σ H Q := by
  refine ⟨_, h1, rfl, _, rfl, ?_⟩
  by_cases e : form = "turn"
  case neg =>
    refine iteF' (fun h => e (V.str.inj (of_decide_eq_true h))) ?_
    rw [decide_eq_false fun z => e z.1] at q
    exact q
  refine iteT' (decide_eq_true (congrArg V.str e)) ?_
  obtain ⟨g, h, rfl⟩ : ∃ g h, gs = [g, h] := by
    rcases hc with hc | hc
    · exact absurd e hc
    · match gs, hc with
      | [g, h], _ => exact ⟨g, h, rfl⟩
  refine ⟨_, h3, D, _, 0, .int g, rfl, rfl, hD, rfl, _, h3, D, _, 1, .int h, rfl, rfl, hD, rfl, rfl, _, rfl, ?_⟩
  rw [show decide (V.int g = V.int h) = decide (form = "turn" ∧ ([g, h] : List Int)[0]? = ([g, h] : List Int)[1]?) from decide_eq_decide.mpr ⟨fun z => ⟨e, by cases z; rfl⟩, fun z => by
    have := z.2
    simp at this
    rw [this]⟩]
  exact q
def frmT : List Int → Str → Option Frm
  | [g], n => some (.close g n)
  | [g, h], n => some (.turn g h n)
  | _, _ => none
def formT (kn : Kn) (form : Str) (pre : List Str) (n : Str) : Option Frm := match glk kn n, allR gateR pre with
  | some ga, some gs => if form = "turn" ∧ gs[0]? = gs[1]? then none else if ∃ g ∈ gs, g ∈ ga then frmT gs n else none
  | _, _ => none
theorem closeR_T {kn : Kn} {form a n : Str} (e : form = "close") : formT kn form [a] n = closeR kn [a, n] := by
  unfold formT closeR
  dsimp only
  cases glk kn n with
  | none => rfl
  | some ga =>
    unfold allR allR
    cases gateR a with
    | none => rfl
    | some g =>
      dsimp only
      rw [if_neg (show ¬ (form = "turn" ∧ _) from fun z => absurd (e.symm.trans z.1) (by decide +kernel))]
      by_cases h : g ∈ ga
      · rw [if_pos h, if_pos ⟨g, List.mem_cons_self, h⟩]
        rfl
      · rw [if_neg h, if_neg fun ⟨x, hx, hm⟩ => h (List.mem_singleton.mp hx ▸ hm)]
theorem turnR_T {kn : Kn} {form a b n : Str} (e : form = "turn") : formT kn form [a, b] n = turnR kn [a, b, n] := by
  unfold formT turnR
  dsimp only
  cases glk kn n with
  | none => rfl
  | some ga =>
    unfold allR allR allR
    cases gateR a with
    | none => rfl
    | some g =>
      cases gateR b with
      | none => rfl
      | some h =>
        dsimp only
        by_cases gh : g = h
        · rw [if_pos ⟨e, by rw [gh]; rfl⟩, if_pos gh]
        · rw [if_neg (show ¬ (form = "turn" ∧ ([g, h] : List Int)[0]? = ([g, h] : List Int)[1]?) from fun z => gh (Option.some.inj z.2)), if_neg gh]
          by_cases o : g ∈ ga ∨ h ∈ ga
          · rw [if_pos o, if_pos (o.elim (fun m => ⟨g, List.mem_cons_self, m⟩) fun m => ⟨h, List.mem_cons_of_mem _ List.mem_cons_self, m⟩)]
            rfl
          · have no : ¬ ∃ x ∈ ([g, h] : List Int), x ∈ ga := fun ⟨x, hx, hm⟩ => o (by
              rcases List.mem_cons.mp hx with rfl | hx
              · exact .inl hm
              · exact .inr (List.mem_singleton.mp hx ▸ hm))
            rw [if_neg o, if_neg no]
section
variable {P : Program} {w : World} {K : PySem.W.Frag} {mg : Str → Option Value} {base : Heap}
def spLParts (K : PySem.W.Frag) : Sp := fun vs H Q _ => ∃ (kd l : Addr) (kn : Kn) (kvs : List (Key × V)) (form : Str) (ws : List Str), vs = [.ref kd, .str form, .ref l] ∧ H kd = some (.dK kvs) ∧ KnD K H kvs kn ∧ KnOk kn ∧ form ∈ fWs ∧ SqL K H l (ws.map V.str) ∧ WsOk ws ∧
  (formR kn (form :: ws) = none → ∀ H', Same H H' → Q .non H') ∧ ∀ (f : Frm) (a : Addr) (H' : Hp), formR kn (form :: ws) = some f → Same H H' → Td K H' (.ref a) (.tuple f.partsL) → Q (.ref a) H'
theorem ok_l_script_parts (T : Txt K mg) : FnOk P w K mg base CX0 4 T.f_l_script_parts T.fd_l_script_parts ["known", "form", "words"] (spLParts K) := by
  refine T.F_l_script_parts.ok sc_l_script_parts (fun vs H Q E h => ?_) (fun cdv A outer s H vs Q E hr h => ?_)
  · obtain ⟨kd, l, kn, kvs, form, ws, rfl, _⟩ := h
    rfl
  · obtain ⟨kd, l, kn, kvs, form, ws, rfl, gk, hkn, hko, hf, hL, wo, qn, qs⟩ := h
    refine ⟨_, (pss_cons (ps_if (pt_cmpR op_eq (pv 1) pe_str (nomark _)) (pss_cons (ps_setLc (i := 3) (own := [("word", 7)]) (g := gName 7) (by rfl) sc_l_script_parts.nd rfl rfl (sw_true rfl rfl rfl (by decide +kernel)) (pi_list (pv 2)) (blkOk_by (own := [("word", 7)]) (by rfl)) (fun _ _ _ _ _ => (pg_name (i := 7) sc_l_script_parts.nd rfl (Or.inl rfl))) (fun _ _ _ _ _ => pts_nil) (fun _ _ _ _ _ => (pe_call (ok_l_script_gate T) (hr.mono (by decide)) (by rfl) T.g_l_script_gate T.F_l_script_gate.kp T.b_l_script_gate .nil pass0 (pa_cons (pv 7) pa_nil))))
  (pss_cons (ps_set (i := 4) sc_l_script_parts.nd rfl (Or.inl rfl) (pe_and (pe_cmpR op_notIn_seq pe_int (pv 3) rfl) (pe_one (pe_callB (cr_all rfl) (by rfl) T.n_all (by decide +kernel) (pa_cons (pe_lc (own := [("one", 8), ("other", 9)]) (by rfl) sc_l_script_parts.nd (RZ.pi_zipA (by rfl) T.n_zip (pa_cons (pv 3) (pa_cons (pe_slice sl_list (pv 3) (po_some pe_int) po_none) pa_nil))) (blkOk_by (own := [("one", 8), ("other", 9)]) (by rfl)) (fun _ _ _ _ _ => (pg_tupK K (n := 2) (by rfl) (pgs_cons (pg_name (i := 8) sc_l_script_parts.nd rfl (Or.inl rfl)) (pgs_cons (pg_name (i := 9) sc_l_script_parts.nd rfl (Or.inl rfl)) pgs_nil)))) (fun _ _ _ _ _ => pts_nil) (fun _ _ _ _ _ => (pe_cmpR op_lt (pv 8) (pv 9) (nomark _)))) pa_nil)))))
  (pss_one (ps_ret (pe_ifExp (pt_val (pv 4)) (pe_callTy call_tuple_of (by rfl) T.n_tuple (by decide +kernel) (pa_cons (pv 3) pa_nil)) pe_non))))) pss_nil)
  (pss_cons (ps_if (pt_cmpR op_eq (pv 1) pe_str (nomark _)) (pss_cons (ps_asg (pe_tup (pa_cons (pe_lc (own := [("word", 7)]) (g := gName 7) (by rfl) sc_l_script_parts.nd (pi_list (OGX.pe_stepL0 (pv 2))) (blkOk_by (own := [("word", 7)]) (by rfl)) (fun _ _ _ _ _ => (pg_name (i := 7) sc_l_script_parts.nd rfl (Or.inl rfl))) (fun _ _ _ _ _ => pts_nil) (fun _ _ _ _ _ => (pe_call (ok_l_script_factor T) (hr.mono (by decide)) (by rfl) T.g_l_script_factor T.F_l_script_factor.kp T.b_l_script_factor .nil pass0 (pa_cons (pv 7) pa_nil)))) (pa_cons (OGX.pe_stepL (c := 1) (pv 2)) pa_nil))) (pg_tup (by rfl) (pgs_cons (pg_name (i := 5) sc_l_script_parts.nd rfl (Or.inl rfl)) (pgs_cons (pg_name (i := 6) sc_l_script_parts.nd rfl (Or.inr rfl)) pgs_nil))))
  (pss_cons (ps_if (PW.pt (pw_or (pt_cmpR (op_eqD hr.units) (pv 6) (pe_lst pa_nil) (nomark _)) (pw_or (pt_cmpR op_ne (pe_callB call_len_seq (by rfl) T.n_len PySem.boot_len (pa_cons (pv 5) pa_nil)) (pe_callB call_len_seq (by rfl) T.n_len PySem.boot_len (pa_cons (pv 6) pa_nil)) (nomark _)) (pw_or (pt_cmpR (op_inD (un65 hr)) pe_non (pv 5) rfl) (pw_or1 (pt_not (pt_val (pe_callB (cr_all rfl) (by rfl) T.n_all (by decide +kernel) (pa_cons (pe_lc (own := [("one", 8)]) (g := gName 8) (by rfl) sc_l_script_parts.nd (pi_list (pv 6)) (blkOk_by (own := [("one", 8)]) (by rfl)) (fun _ _ _ _ _ => (pg_name (i := 8) sc_l_script_parts.nd rfl (Or.inl rfl))) (fun _ _ _ _ _ => pts_nil) (fun _ _ _ _ _ => (pe_cmp (pc_din (hu_of hr) (pv 8) (pv 0)) rfl))) pa_nil))))))))) (pss_one (ps_ret pe_non)) pss_nil)
  (pss_cons (ps_set (i := 4) sc_l_script_parts.nd rfl (Or.inl rfl) (pe_callB (cr_all rfl) (by rfl) T.n_all (by decide +kernel) (pa_cons (pe_lc (own := [("one", 8)]) (g := gName 8) (by rfl) sc_l_script_parts.nd (pi_list (pv 6)) (blkOk_by (own := [("one", 8)]) (by rfl)) (fun _ _ _ _ _ => (pg_name (i := 8) sc_l_script_parts.nd rfl (Or.inl rfl))) (fun _ _ _ _ _ => pts_nil) (fun _ _ _ _ _ => (pe_cmpR (op_eqDK K hr.units) (pe_dget (hu_of hr) (pv 0) (pv 8) (fun _ _ => rfl)) (pe_dget (hu_of hr) (pv 0) (pe_ix (ix_listK K) (pv 6) pe_int (fun _ _ => rfl)) (fun _ _ => rfl)) (nomark _)))) pa_nil)))
  (pss_one (ps_ret (pe_ifExp (pt_val (pv 4)) (pe_callTy call_tuple_of (by rfl) T.n_tuple (by decide +kernel) (pa_cons (OGX.pe_listZip rfl (by rfl) T.n_list (by rfl) T.n_zip (pa_cons (pv 5) (pa_cons (pv 6) pa_nil))) pa_nil)) pe_non)))))) pss_nil)
  (pss_cons (ps_if (pt_cmpR op_ne (pe_callB call_len_seq (by rfl) T.n_len PySem.boot_len (pa_cons (pv 2) pa_nil)) (pe_dget2 (hu_of hr) (pe_disp (pps_cons pe_str pe_int (pps_cons pe_str pe_int (pps_cons pe_str pe_int pps_nil))) (by rfl) (by rfl) (fun z => by cases z) (by decide)) (pv 1) (pe_un un_neg pe_int) ⟨rfl, rfl, rfl, rfl⟩) (nomark _)) (pss_one (ps_ret pe_non)) pss_nil)
  (pss_cons (ps_setLc (i := 3) (own := [("word", 7)]) (g := gName 7) (by rfl) sc_l_script_parts.nd rfl rfl (sw_true rfl rfl rfl (by decide +kernel)) (pi_list (pe_ifExp (pt_cmpR op_eq (pv 1) pe_str (nomark _)) (pe_slice sl_list (pv 2) (po_some pe_int) po_none) (pe_slice sl_list (pv 2) po_none (po_some (pe_un un_neg pe_int))))) (blkOk_by (own := [("word", 7)]) (by rfl)) (fun _ _ _ _ _ => (pg_name (i := 7) sc_l_script_parts.nd rfl (Or.inl rfl))) (fun _ _ _ _ _ => pts_nil) (fun _ _ _ _ _ => (pe_call (ok_l_script_gate T) (hr.mono (by decide)) (by rfl) T.g_l_script_gate T.F_l_script_gate.kp T.b_l_script_gate .nil pass0 (pa_cons (pv 7) pa_nil))))
  (pss_cons (ps_if (PW.pt (pw_or (pt_cmpR op_in_seq pe_int (pv 3) rfl) (pw_or1 (PW.pt (pw_and (pt_cmpR op_eq (pv 1) pe_str (nomark _)) (pw_and1 (pt_cmpR op_eq (pe_ix ix_list (pv 3) pe_int (fun _ _ => rfl)) (pe_ix ix_list (pv 3) pe_int (fun _ _ => rfl)) (nomark _)))))))) (pss_one (ps_ret pe_non)) pss_nil)
  (pss_cons (ps_if (pt_cmpR op_eq (pv 1) pe_str (nomark _)) (pss_one (ps_ret (pe_ifExp (pt_val (pe_call (ok_l_script_is_word T) (hr.mono (by decide)) (by rfl) T.g_l_script_is_word T.F_l_script_is_word.kp T.b_l_script_is_word .nil pass0 (pa_cons (pe_ix ix_list (pv 2) pe_int (fun _ _ => rfl)) (pa_cons pe_int pa_nil)))) (pe_callTy call_tuple_of (by rfl) T.n_tuple (by decide +kernel) (pa_cons (pe_op op_cat (pe_lst (pa_cons (pe_ix ix_list (pv 2) pe_int (fun _ _ => rfl)) pa_nil)) (pv 3)) pa_nil)) pe_non))) pss_nil)
  (pss_cons (ps_if (PW.pt (pw_or (pt_cmp (pc_dnotin (hu_of hr) (pe_ix ix_list (pv 2) (pe_un un_neg pe_int) (fun _ _ => rfl)) (pv 0))) (pw_or1 (pt_not (pt_val (pe_callB (cr_any rfl) (by rfl) T.n_any (by decide +kernel) (pa_cons (pe_lc (own := [("gate", 10)]) (g := gName 10) (by rfl) sc_l_script_parts.nd (pi_list (pv 3)) (blkOk_by (own := [("gate", 10)]) (by rfl)) (fun _ _ _ _ _ => (pg_name (i := 10) sc_l_script_parts.nd rfl (Or.inl rfl))) (fun _ _ _ _ _ => pts_nil) (fun _ _ _ _ _ => (pe_cmpR (op_in_seqK K) (pv 10) (pe_dget (hu_of hr) (pv 0) (pe_ix (ix_listK K) (pv 2) (pe_un un_neg pe_int) (fun _ _ => rfl)) (fun _ _ => rfl)) rfl))) pa_nil))))))) (pss_one (ps_ret pe_non)) pss_nil)
  (pss_one (ps_ret (pe_callTy call_tuple_of (by rfl) T.n_tuple (by decide +kernel) (pa_cons (pe_op op_cat (pv 3) (pe_slice sl_list (pv 2) (po_some (pe_un un_neg pe_int)) po_none)) pa_nil))))))))))), ?_⟩
    have wide : ∀ {n : Nat}, n ≤ 10000000 → n ≤ sizeLine := fun h => Nat.le_trans h (by decide)
    have w4 := wo.len
    have wl : (ws.map V.str).length ≤ 10000000 := by
      rw [List.length_map]
      omega
    have wm : (ws.map V.str).length ≤ 10000 := by
      rw [List.length_map]
      omega
    unfold formR at qn qs
    dsimp only at qn qs
    refine ⟨_, rfl, rfl, _, rfl, ?_⟩
    by_cases e1 : form = "one"
    · rw [if_pos e1] at qn qs
      refine iteT' (decide_eq_true (congrArg V.str e1)) ?_
      refine ⟨_, rfl, l, rfl, ⟨_, hL⟩, fun D hD => ?_⟩
      refine lc_mapLV (K := K) (a := l) ((glW ws).map V.int) (by rw [List.length_map, List.length_map]; unfold glW; rw [List.length_map]) wl hD hL (fun _ => rfl) (fun _ _ _ q => q) (fun i x y H' Q hx hy s q => ?_) (fun H1 s1 gD => ?_)
      · obtain ⟨z, hz, rfl⟩ := str_at hx
        refine ⟨_, rfl, z, rfl, fun H2 s2 => ?_⟩
        unfold glW at hy
        rw [List.getElem?_map, List.getElem?_map, hz] at hy
        cases Option.some.inj hy
        exact q _ s2
      have gr : ∀ g ∈ glW ws, 0 ≤ g ∧ g ≤ 4 := fun g hg => by
        obtain ⟨z, hz, rfl⟩ := List.mem_map.mp hg
        cases eg : gateR z with
        | none => exact ⟨Int.le_refl _, by show (0 : Int) ≤ 4; decide⟩
        | some g =>
          have := gateR_rng eg
          exact ⟨by show 0 ≤ g; omega, this.2⟩
      refine ⟨_, rfl, D, (glW ws).map V.int, rfl, .inl (SqL.of gD), rfl, flat_ints _, _, rfl, ?_⟩
      rw [show (if true = true then !inV (V.int 0) ((glW ws).map V.int) else inV (V.int 0) ((glW ws).map V.int)) = !inV (V.int 0) ((glW ws).map V.int) from rfl, inV_int]
      cases ea : allR gateR ws with
      | none =>
        have m0 := glW_none.mpr ea
        rw [decide_eq_true m0]
        refine iteF ?_
        refine ⟨_, rfl, false, rfl, ?_⟩
        refine iteF ?_
        exact qn (by unfold gatesR; rw [ea]; rfl) _ s1
      | some gs =>
        have m0 : (0 : Int) ∉ glW ws := fun z => by
          rw [glW_none.mp z] at ea
          cases ea
        rw [decide_eq_false m0]
        refine iteT ?_
        rw [glW_some ea] at gD
        have lg : gs.length ≤ 4000 := by
          rw [(allR_some ea).1]
          exact w4
        refine ⟨_, rfl, _, rfl, _, rfl, D, _, rfl, SqL.of gD, fun p hp => ?_⟩
        have ec : cutV (gs.map V.int) (some 1) none = (gs.drop 1).map V.int := by
          cases gs with
          | nil => rfl
          | cons g r => exact cut1 _ _
        rw [ec]
        have s2 := s1.trans (same_new (o := .lst ((gs.drop 1).map V.int)) hp)
        have gD2 := same_new (o := .lst ((gs.drop 1).map V.int)) hp _ _ gD
        have gp : (upd H1 p (.lst ((gs.drop 1).map V.int))) p = some (.lst ((gs.drop 1).map V.int)) := upd_same
        generalize upd H1 p (.lst ((gs.drop 1).map V.int)) = H2 at *
        refine ⟨D, p, _, _, rfl, .inl ⟨SqL.of gD2, SqL.of gp, fun D2 hD2 => ?_⟩⟩
        have al : (adjB gs).length = min gs.length (gs.drop 1).length := by
          unfold adjB
          rw [List.length_map, List.length_zip]
        refine lc_it (walk_zip (n := (adjB gs).length) (xs := gs.map V.int) (ys := (gs.drop 1).map V.int) (by rw [List.length_map, List.length_map, al])) (fun i H' => Same H2 H' ∧ H' D2 = some (.lst (((adjB gs).take i).map V.bl))) ⟨same_new hD2, upd_same⟩ (fun i H' _ ⟨s, _⟩ => ⟨SqL.of (s _ _ gD2), SqL.of (s _ _ gp)⟩) ?_ ?_
        · rintro i v H' H'' hi ⟨s, g⟩ hy
          obtain ⟨T, x, y, rfl, hT, rfl, hx, hy⟩ := hy
          obtain ⟨a, ha, rfl⟩ := int_at hx
          obtain ⟨b, hb, rfl⟩ := int_at hy
          have sT := same_new (o := .tup [.int a, .int b]) hT
          have hz : (adjB gs)[i]? = some (decide (a < b)) := by
            unfold adjB
            rw [List.getElem?_map, List.getElem?_zip_eq_some (z := (a, b)) |>.mpr ⟨ha, hb⟩]
            rfl
          refine ⟨T, _, rfl, SqT.of upd_same, rfl, _, _, rfl, _, _, rfl, rfl, rfl, ?_⟩
          refine ⟨_, rfl, _, rfl, a, b, rfl, rfl, ?_⟩
          refine ⟨_, sT _ _ g, ?_, fun c o e => ?_, ?_⟩
          · rw [List.length_map]
            exact Nat.lt_of_le_of_lt (show ((adjB gs).take i).length ≤ 4000 by rw [List.length_take, al]; omega) (by decide)
          · rw [upd_ne (ne_of_none e hD2)]
            exact sT _ _ (s _ _ e)
          · rw [upd_same, take_more hz, List.map_append]
            rfl
        · rintro H3 ⟨s3, g3⟩
          rw [List.take_length] at g3
          refine ⟨D2, _, rfl, SqL.of g3, ?_⟩
          have sA := s2.trans s3
          have aa := adj_asc (gs_rng ea)
          cases eb : (adjB gs).all id with
          | false =>
            refine ⟨_, rfl, false, rfl, ?_⟩
            refine iteF ?_
            refine qn (by
              unfold gatesR
              rw [ea]
              dsimp only
              rw [if_neg fun z => by rw [aa.mpr z] at eb; cases eb]
              rfl) _ sA
          | true =>
            refine ⟨_, rfl, true, rfl, ?_⟩
            refine iteT ?_
            refine ⟨_, rfl, D, _, rfl, .inl ⟨SqL.of (s3 _ _ gD2), fun t ht => ?_⟩⟩
            refine qs (.one gs) t _ (by
              unfold gatesR
              rw [ea]
              dsimp only
              rw [if_pos (aa.mp eb)]
              rfl) (sA.trans (same_new ht)) ?_
            exact td_gs (SqT.of upd_same)
    rw [if_neg e1] at qn qs
    refine iteF' (fun h => e1 (V.str.inj (of_decide_eq_true h))) ?_
    refine ⟨_, rfl, rfl, _, rfl, ?_⟩
    by_cases e5 : form = "add"
    · have n2 : form ≠ "road" := by rw [e5]; decide +kernel
      have n3 : form ≠ "close" := by rw [e5]; decide +kernel
      have n4 : form ≠ "turn" := by rw [e5]; decide +kernel
      rw [if_neg n2, if_neg n3, if_neg n4, if_pos e5] at qn qs
      refine iteT' (decide_eq_true (congrArg V.str e5)) ?_
      refine ⟨_, rfl, l, _, rfl, hL, wm, fun p0 hp0 => ?_⟩
      rw [stepA_map]
      obtain ⟨es, ees⟩ : ∃ es, es = stepA ws 0 := ⟨_, rfl⟩
      obtain ⟨ns, ens⟩ : ∃ ns, ns = stepA ws 1 := ⟨_, rfl⟩
      have tx : ∀ z ∈ es, TxOk 5000000 z := fun z hz => wo.tx z (stepA_mem (ees ▸ hz))
      have len0 : es.length ≤ 4001 := by
        have := stepA_len ws 0
        rw [ees]
        omega
      have len1 : ns.length ≤ 4001 := by
        have := stepA_len ws 1
        rw [ens]
        omega
      unfold addR at qs
      have qn := fun h => qn (addR_no (kn := kn) (t := ws) h)
      rw [← ees, ← ens] at qn qs
      rw [← ees]
      have s0 := same_new (o := .lst (es.map V.str)) hp0
      have g0 : (upd H p0 (.lst (es.map V.str))) p0 = some (.lst (es.map V.str)) := upd_same
      generalize upd H p0 (.lst (es.map V.str)) = H0 at *
      refine ⟨p0, rfl, ⟨_, SqL.of g0⟩, fun D hD => ?_⟩
      refine lc_facL (K := K) (a := p0) es (by omega) hD g0 (fun _ => rfl) (fun _ _ _ q => q) (fun z H' Q hz s kk => ?_) (fun H1 ys s1 gD hal ha => ?_)
      · exact ⟨_, rfl, z, rfl, (tx z hz).len, fun e H2 s2 => kk _ _ s2 (by rw [e]; rfl), fun f a H2 e s2 ga => kk _ _ s2 (by rw [e]; exact ⟨a, rfl, ga⟩)⟩
      have s01 := s0.trans s1
      refine ⟨_, rfl, l, _, rfl, SqL.ext hL s01, wm, fun p1 hp1 => ?_⟩
      rw [stepA_map, ← ens]
      have s2 := s01.trans (same_new (o := .lst (ns.map V.str)) hp1)
      have g1 : (upd H1 p1 (.lst (ns.map V.str))) p1 = some (.lst (ns.map V.str)) := upd_same
      have gD2 := same_new (o := .lst (ns.map V.str)) hp1 _ _ gD
      have ha2 : ∀ (j : Nat) (y : V) (o : Option Fac), ys[j]? = some y → (es.map facR)[j]? = some o → FacAt (upd H1 p1 (.lst (ns.map V.str))) o y := fun j y o h1 h2 => (ha j y o h1 h2).ext (same_new hp1)
      generalize upd H1 p1 (.lst (ns.map V.str)) = H2 at *
      refine ⟨wide (show 2 ≤ 10000000 by decide), fun tp htp => ?_⟩
      have sq := same_new (o := .tup [.ref D, .ref p1]) htp
      have gtp : (upd H2 tp (.tup [.ref D, .ref p1])) tp = some (.tup [.ref D, .ref p1]) := upd_same
      have s2 := s2.trans sq
      have g1 := sq _ _ g1
      have gD2 := sq _ _ gD2
      have ha2 : ∀ (j : Nat) (y : V) (o : Option Fac), ys[j]? = some y → (es.map facR)[j]? = some o → FacAt (upd H2 tp (.tup [.ref D, .ref p1])) o y := fun j y o h1 h2 => (ha2 j y o h1 h2).ext sq
      generalize upd H2 tp (.tup [.ref D, .ref p1]) = H3 at *
      refine ⟨tp, _, rfl, SqT.of gtp, rfl, _, _, rfl, _, _, rfl, rfl, ?_⟩
      refine ⟨_, rfl, wide (show 0 ≤ 10000000 by decide), fun q0 hq0 => ?_⟩
      have s3 := same_new (o := .lst []) hq0
      have s2 := s2.trans s3
      have g1 := s3 _ _ g1
      have gD2 := s3 _ _ gD2
      have ha2 : ∀ (j : Nat) (y : V) (o : Option Fac), ys[j]? = some y → (es.map facR)[j]? = some o → FacAt (upd H3 q0 (.lst [])) o y := fun j y o h1 h2 => (ha2 j y o h1 h2).ext s3
      have gq0 : (upd H3 q0 (.lst [])) q0 = some (.lst []) := upd_same
      generalize upd H3 q0 (.lst []) = H4 at *
      have tdl : TdAll K H4 ys ((es.map facR).map facO) := facO_td (by rw [List.length_map, hal]) ha2
      have tds : ∀ {H : Hp} (l : List Str), TdAll K H (l.map V.str) (l.map PyData.str) := fun l => by
        induction l with
        | nil => exact .nil
        | cons a r ih => exact .cons (.str _) ih
      have okN : ∀ z ∈ ns, PyData.strOk z = true := fun z hz => (wo.tx z (stepA_mem (ens ▸ hz))).ok
      refine ⟨.list (ns.map PyData.str), .list [], .lst (SqL.of g1) (tds ns).dp, .lst (SqL.of gq0) TdAll.nil.dp, shaped_strs okN, shaped_nil, _, rfl, ?_⟩
      by_cases n0 : ns = []
      · refine iteT' (by rw [n0]; simp [PyData.eqv, PyData.eqvAll]) ?_
        refine iteT' rfl ?_
        exact qn (fun fs _ z => by rw [n0] at z; cases z.2) _ s2
      refine iteF' (by
        cases ns with
        | nil => exact absurd rfl n0
        | cons a r => simp [PyData.eqv, PyData.eqvAll]) ?_
      refine ⟨_, rfl, D, _, rfl, .inl (SqL.of gD2), _, rfl, p1, _, rfl, .inl (SqL.of g1), rfl, _, rfl, ?_⟩
      by_cases le : es.length = ns.length
      case neg =>
        refine iteT' (by rw [List.length_map, hal, vint_ne (show ((es.length : Nat) : Int) ≠ (ns.length : Int) by omega)]; rfl) ?_
        refine iteT' rfl ?_
        refine qn (fun fs e z => le ?_) _ s2
        rw [← (allR_some e).1]
        exact z.1
      rw [List.length_map, hal, decide_eq_true (show V.int (es.length : Int) = V.int (ns.length : Int) by rw [le])]
      refine iteF ?_
      refine ⟨_, rfl, .none, (es.map facR).map facO, .non, .lst (SqL.of gD2) tdl.dp, shaped_none, facO_shaped _, _, rfl, ?_⟩
      rw [facO_none]
      cases ea : allR facR es with
      | none =>
        refine iteT' (allR_any.mpr ea) ?_
        refine iteT' rfl ?_
        exact qn (fun fs e _ => by rw [ea] at e; cases e) _ s2
      | some fs =>
      refine iteF' (fun z => by rw [allR_any.mp z] at ea; cases ea) ?_
      rw [ea] at qs qn
      have qn : ¬ (kinR kn ns = true) → ∀ H', Same H H' → Q .non H' := fun h => qn (fun fs' e z => by
        cases e
        exact h z.2)
      have el : fs.length = ns.length := ((allR_some ea).1).trans le
      have nl : (ns.map V.str).length ≤ 10000000 := by
        rw [List.length_map]
        omega
      refine ⟨_, rfl, p1, rfl, ⟨_, SqL.of g1⟩, fun D3 hD3 => ?_⟩
      refine lc_mapLV (K := K) (a := p1) (xs := ns.map V.str) ((ns.map fun z => (glk kn z).isSome).map V.bl) (by rw [List.length_map, List.length_map, List.length_map]) nl hD3 (SqL.of g1) (fun _ => rfl) (fun z H' Q kk => kk) (fun i x y H' Q hx hy s3 kk => ?_) (fun H5 s3 g3 => ?_)
      · obtain ⟨z, hz, rfl⟩ := str_at hx
        rw [List.getElem?_map, List.getElem?_map, hz] at hy
        cases Option.some.inj hy
        have gk3 := s3 _ _ (s2 _ _ gk)
        dsimp only at kk
        cases eg : glk kn z with
        | none =>
          rw [eg] at kk
          exact ⟨_, rfl, _, rfl, kd, none, rfl, .inl ⟨kvs, .inr z, .inl gk3, rfl, (hkn.no eg).symm⟩, kk _ (Same.refl _)⟩
        | some gs =>
          rw [eg] at kk
          obtain ⟨v, v1, _⟩ := hkn.get eg
          exact ⟨_, rfl, _, rfl, kd, some v, rfl, .inl ⟨kvs, .inr z, .inl gk3, rfl, v1.symm⟩, kk _ (Same.refl _)⟩
      refine ⟨D3, _, rfl, SqL.of g3, _, rfl, ?_⟩
      obtain ⟨n1, nr, en⟩ : ∃ n1 nr, ns = n1 :: nr := by
        cases ns with
        | nil => exact absurd rfl n0
        | cons a r => exact ⟨a, r, rfl⟩
      by_cases al : ∀ n ∈ ns, (glk kn n).isSome = true
      case neg =>
        have : ((ns.map fun z => (glk kn z).isSome).all id) = false := by
          rw [Bool.eq_false_iff, ne_eq, List.all_eq_true]
          intro h
          exact al fun n hn => h _ (List.mem_map.mpr ⟨n, hn, rfl⟩)
        rw [this]
        refine iteT' rfl ?_
        refine qn (fun z => al ?_) _ (s2.trans s3)
        obtain ⟨a, r, gs, e1, e2⟩ := kinR_at z
        exact fun n hn => by rw [e2 n hn]; rfl
      have : ((ns.map fun z => (glk kn z).isSome).all id) = true := by
        rw [List.all_eq_true]
        intro b hb
        obtain ⟨n, hn, rfl⟩ := List.mem_map.mp hb
        exact al n hn
      rw [this]
      refine iteF' (by decide) ?_
      have get : ∀ {n : Str} {H' : Hp}, Same H4 H' → n ∈ ns → ∃ v gs, glk kn n = some gs ∧ DGet H' kd (.str n) (some v) ∧ Td K H' v (gsD gs) := fun s hn => by
        obtain ⟨gs, eg⟩ := some_of (al _ hn)
        obtain ⟨v, v1, v2⟩ := hkn.get eg
        exact ⟨v, gs, eg, .inl ⟨kvs, .inr _, .inl (s _ _ (s2 _ _ gk)), rfl, v1.symm⟩, v2.mv (Same.tk (s2.trans s))⟩
      have h0 : n1 ∈ ns := by
        rw [en]
        exact List.mem_cons_self
      have a0 : (ns.map V.str)[0]? = some (.str n1) := by
        rw [en]
        rfl
      refine ⟨_, rfl, p1, rfl, ⟨_, SqL.of (s3 _ _ g1)⟩, fun D4 hD4 => ?_⟩
      refine lc_mapLV (K := K) (a := p1) (xs := ns.map V.str) ((ns.map fun z => decide (glk kn z = glk kn n1)).map V.bl) (by rw [List.length_map, List.length_map, List.length_map]) nl hD4 (SqL.of (s3 _ _ g1)) (fun _ => rfl) (fun z H' Q kk => kk) (fun i x y H' Q hx hy s4 kk => ?_) (fun H6 s4 g4 => ?_)
      · obtain ⟨z, hz, rfl⟩ := str_at hx
        rw [List.getElem?_map, List.getElem?_map, hz] at hy
        cases Option.some.inj hy
        obtain ⟨v, gs, eg, v1, v2⟩ := get (s3.trans s4) (List.mem_of_getElem? hz)
        obtain ⟨v0, gs0, eg0, v01, v02⟩ := get (s3.trans s4) h0
        refine ⟨_, rfl, _, rfl, kd, v, rfl, v1, ?_⟩
        refine ⟨_, rfl, _, rfl, p1, _, 0, .str n1, rfl, rfl, SqL.of (s4 _ _ (s3 _ _ g1)), atI_nat (j := 0) a0, kd, v0, rfl, v01, ?_⟩
        refine ⟨gsD gs, gsD gs0, v2.dp, v02.dp, shaped_ints gs, shaped_ints gs0, ?_⟩
        rw [eqv_gs]
        have ee : decide (gs = gs0) = decide (glk kn z = glk kn n1) := by
          rw [eg, eg0]
          exact decide_eq_decide.mpr ⟨fun h => by rw [h], fun h => Option.some.inj h⟩
        rw [ee]
        exact kk _ (Same.refl _)
      refine ⟨D4, _, rfl, SqL.of g4, ?_⟩
      have s24 := s3.trans s4
      by_cases ae : ∀ n ∈ ns, glk kn n = glk kn n1
      case neg =>
        have : ((ns.map fun z => decide (glk kn z = glk kn n1)).all id) = false := by
          rw [Bool.eq_false_iff, ne_eq, List.all_eq_true]
          intro h
          exact ae fun n hn => of_decide_eq_true (h _ (List.mem_map.mpr ⟨n, hn, rfl⟩))
        rw [this]
        refine ⟨_, rfl, false, rfl, ?_⟩
        refine iteF ?_
        refine qn (fun z => ae ?_) _ (s2.trans s24)
        obtain ⟨a, r, gs, e1, e2⟩ := kinR_at z
        exact fun n hn => by rw [e2 n hn, e2 n1 h0]
      have : ((ns.map fun z => decide (glk kn z = glk kn n1)).all id) = true := by
        rw [List.all_eq_true]
        intro b hb
        obtain ⟨n, hn, rfl⟩ := List.mem_map.mp hb
        exact decide_eq_true (ae n hn)
      rw [this]
      refine ⟨_, rfl, true, rfl, ?_⟩
      refine iteT ?_
      have kin : kinR kn ns = true := by
        have e : kinR kn ns = ((ns.all fun n => (glk kn n).isSome) && ns.all fun n => decide (glk kn n = glk kn n1)) := by
          rw [en]
          rfl
        rw [e, Bool.and_eq_true, List.all_eq_true, List.all_eq_true]
        exact ⟨al, fun n hn => decide_eq_true (ae n hn)⟩
      dsimp only at qs
      rw [if_pos ⟨el, kin⟩] at qs
      obtain ⟨as, rfl, asl, haf⟩ := fac_refs (by rw [List.length_map, hal]) (allR_map ea) ha2
      refine ⟨_, rfl, _, rfl, D, p1, _, _, rfl, SqL.of (s24 _ _ gD2), SqL.of (s24 _ _ g1), ?_, ?_, fun t ps H7 s5 pl pp gt => ?_⟩
      · rw [List.length_map, List.length_map, asl, el]
      · rw [List.length_map, asl]
        omega
      refine ⟨t, _, rfl, .inl ⟨SqL.of gt, fun a ha' => ?_⟩⟩
      have sa := same_new (o := .tup (ps.map V.ref)) ha'
      have s25 := (s24.trans s5).trans sa
      refine qs (.add (fs.zip ns)) a _ rfl (s2.trans s25) ?_
      rw [List.length_map] at pl
      have zl : (fs.zip ns).length = fs.length := by
        rw [List.length_zip, el, Nat.min_self]
      have za : ∀ {j : Nat} {f : Fac × Str}, (fs.zip ns)[j]? = some f → fs[j]? = some f.1 ∧ ns[j]? = some f.2 := fun {j f} h => by
        have := List.getElem?_zip_eq_some.mp h
        exact this
      refine .tup (SqT.of upd_same) (parts_td (by rw [zl, asl]) (by rw [zl, pl, asl]) (fun j a f h1 h2 => s25 _ _ (haf j a f.1 h1 (za h2).1)) fun i b f p h1 h2 h3 => sa _ _ (pp i (.ref b) (.str f.2) p ?_ ?_ h3))
      · rw [List.getElem?_map, h1]
        rfl
      · rw [List.getElem?_map, (za h2).2]
        rfl
    rw [if_neg e5] at qn qs
    refine iteF' (fun h => e5 (V.str.inj (of_decide_eq_true h))) ?_
    have lenE : ∀ {n : Nat}, ws.length = n ↔ V.int (((ws.map V.str).length : Nat) : Int) = V.int ((n : Nat) : Int) := fun {n} => by
      rw [List.length_map]
      exact ⟨fun h => by rw [h], fun h => by have := V.int.inj h; omega⟩
    refine ⟨_, rfl, l, _, rfl, .inl hL, fun d hd => ⟨upd_same, [(.inr "road", .int 3), (.inr "close", .int 2), (.inr "turn", .int 3)], rfl, by decide, ?_⟩⟩
    have sd : Same H (upd (upd H d (.dK [])) d (.dK (mergeK [] [(.inr "road", .int 3), (.inr "close", .int 2), (.inr "turn", .int 3)]))) := same_put hd
    have gd : (upd (upd H d (.dK [])) d (.dK (mergeK [] [(.inr "road", .int 3), (.inr "close", .int 2), (.inr "turn", .int 3)]))) d = some (.dK [(.inr "road", .int 3), (.inr "close", .int 2), (.inr "turn", .int 3)]) := upd_same
    generalize upd (upd H d (.dK [])) d (.dK (mergeK [] [(.inr "road", .int 3), (.inr "close", .int 2), (.inr "turn", .int 3)])) = H1 at *
    have hL1 := SqL.ext hL sd
    have gk1 := sd _ _ gk
    have hf : form = "road" ∨ form = "close" ∨ form = "turn" := by
      unfold fWs at hf
      simp only [List.mem_cons, List.mem_nil_iff, or_false] at hf
      rcases hf with h | h | h | h | h
      · exact absurd h e1
      · exact .inl h
      · exact .inr (.inl h)
      · exact .inr (.inr h)
      · exact absurd h e5
    rcases hf with e | hf
    · subst e
      rw [if_pos rfl] at qn qs
      refine ⟨d, rfl, .inl ⟨_, .inl gd⟩, _, rfl, _, rfl, some (.int 3), .inl ⟨_, .inr "road", .inl gd, rfl, rfl⟩, rfl, _, rfl, ?_⟩
      by_cases l3 : ws.length = 3
      case neg =>
        refine iteT' (show (!decide (V.int (((ws.map V.str).length : Nat) : Int) = V.int 3)) = true by rw [vint_ne (show (((ws.map V.str).length : Nat) : Int) ≠ 3 by rw [List.length_map]; omega)]; rfl) ?_
        exact qn (roadR_n3 l3) _ sd
      obtain ⟨k, a, b, rfl⟩ := three l3
      refine iteF' (by simp) ?_
      refine ⟨_, rfl, rfl, _, rfl, ?_⟩
      refine iteT' rfl ?_
      refine ⟨_, rfl, _, rfl, l, _, rfl, hL1, fun p hp => ?_⟩
      rw [show cutV (([k, a, b] : List Str).map V.str) (some 1) none = ([a, b] : List Str).map V.str from cut1 _ _]
      have s2 := sd.trans (same_new (o := .lst (([a, b] : List Str).map V.str)) hp)
      have gp : (upd H1 p (.lst (([a, b] : List Str).map V.str))) p = some (.lst (([a, b] : List Str).map V.str)) := upd_same
      generalize upd H1 p (.lst (([a, b] : List Str).map V.str)) = H2 at *
      refine ⟨p, rfl, ⟨_, SqL.of gp⟩, fun D hD => ?_⟩
      refine lc_mapLV (K := K) (a := p) (xs := ([a, b] : List Str).map V.str) ((glW [a, b]).map V.int) rfl (by show 2 ≤ 10000000; decide) hD (SqL.of gp) (fun _ => rfl) (fun _ _ _ q => q) (fun i x y H' Q hx hy s q => ?_) (fun H3 s3 gD => ?_)
      · obtain ⟨z, hz, rfl⟩ := str_at hx
        refine ⟨_, rfl, z, rfl, fun H2 s2 => ?_⟩
        unfold glW at hy
        rw [List.getElem?_map, List.getElem?_map, hz] at hy
        cases Option.some.inj hy
        exact q _ s2
      have s23 := s2.trans s3
      unfold roadR at qn qs
      dsimp only at qn qs
      refine ⟨_, rfl, D, _, rfl, .inl (SqL.of gD), rfl, flat_ints _, _, rfl, ?_⟩
      rw [show (if false = true then !inV (V.int 0) ((glW [a, b]).map V.int) else inV (V.int 0) ((glW [a, b]).map V.int)) = inV (V.int 0) ((glW [a, b]).map V.int) from rfl, inV_int]
      cases ea : allR gateR [a, b] with
      | none =>
        rw [decide_eq_true (glW_none.mpr ea)]
        refine iteT ?_
        refine iteT' rfl ?_
        refine qn ?_ _ s23
        split
        · split
          · rename_i e1 e2
            exact (allR2n ea e1 e2).elim
          · rfl
        · rfl
      | some gs =>
        have m0 : (0 : Int) ∉ glW [a, b] := fun z => by
          rw [glW_none.mp z] at ea
          cases ea
        rw [decide_eq_false m0]
        refine iteF ?_
        rw [glW_some ea] at gD
        obtain ⟨g, h, eg, eh, rfl⟩ := allR2 ea
        rw [eg, eh] at qn qs
        dsimp only at qn qs
        refine ⟨_, rfl, rfl, _, rfl, ?_⟩
        refine iteF' (by decide) ?_
        refine iteF ?_
        refine ⟨_, rfl, rfl, _, rfl, ?_⟩
        refine iteT' rfl ?_
        have tk := wo.tx k (by simp)
        have hL3 := SqL.ext hL s23
        refine ⟨_, rfl, l, _, 0, .str k, rfl, rfl, hL3, rfl, k, 4, rfl, Nat.le_trans tk.len (by decide), fun H4 s4 => ?_⟩
        have s24 := s23.trans s4
        have hL4 := SqL.ext hL s24
        cases ek : isNmB 4 k with
        | false =>
          rw [if_neg (by rw [ek]; decide)] at qn
          refine ⟨_, rfl, ?_⟩
          refine iteF ?_
          exact qn rfl _ s24
        | true =>
          rw [if_pos ek] at qs
          refine ⟨_, rfl, ?_⟩
          refine iteT ?_
          refine ⟨_, rfl, l, _, 0, .str k, rfl, rfl, hL4, rfl, wide (show 1 ≤ 10000000 by decide), fun p1 hp1 => ?_⟩
          have s5 := same_new (o := .lst [.str k]) hp1
          refine ⟨_, rfl, p1, D, [.str k], [.int g, .int h], rfl, rfl, upd_same, s5 _ _ (s4 _ _ gD), by show 3 ≤ sizeLine; decide, fun p2 hp2 => ?_⟩
          have s6 := same_new (o := .lst ([.str k] ++ [.int g, .int h])) hp2
          refine ⟨p2, _, rfl, .inl ⟨SqL.of upd_same, fun a' ha' => ?_⟩⟩
          refine qs (.road k g h) a' _ rfl (((s24.trans s5).trans s6).trans (same_new ha')) ?_
          exact .tup (SqT.of upd_same) (.cons (.str _) (.cons (.int _) (.cons (.int _) .nil)))
    have nr : form ≠ "road" := by
      rcases hf with e | e <;> rw [e] <;> decide +kernel
    rw [if_neg nr] at qn qs
    obtain ⟨m, hm, hv⟩ : ∃ m : Nat, ((form = "close" ∧ m = 1) ∨ form = "turn" ∧ m = 2) ∧ valV ([(.inr "road", .int 3), (.inr "close", .int 2), (.inr "turn", .int 3)] : List (Key × V)) (.inr form : Key) = some (.int ((m + 1 : Nat) : Int)) := by
      rcases hf with e | e
      · exact ⟨1, .inl ⟨e, rfl⟩, by rw [e]; rfl⟩
      · exact ⟨2, .inr ⟨e, rfl⟩, by rw [e]; rfl⟩
    refine ⟨d, rfl, .inl ⟨_, .inl gd⟩, _, rfl, _, rfl, some (.int ((m + 1 : Nat) : Int)), .inl ⟨_, .inr form, .inl gd, rfl, hv.symm⟩, rfl, _, rfl, ?_⟩
    by_cases l3 : ws.length = m + 1
    case neg =>
      refine iteT' (show (!decide (V.int (((ws.map V.str).length : Nat) : Int) = V.int ((m + 1 : Nat) : Int))) = true by rw [vint_ne (show (((ws.map V.str).length : Nat) : Int) ≠ ((m + 1 : Nat) : Int) by rw [List.length_map]; omega)]; rfl) ?_
      refine qn ?_ _ sd
      rcases hm with ⟨e, rfl⟩ | ⟨e, rfl⟩
      · rw [if_pos e]
        exact closeR_n2 l3
      · rw [if_neg (by rw [e]; decide +kernel), if_pos e]
        exact turnR_n3 l3
    obtain ⟨pre, n, rfl⟩ : ∃ pre n, ws = pre ++ [n] := by
      refine ⟨_, _, (List.dropLast_concat_getLast (l := ws) fun z => ?_).symm⟩
      rw [z] at l3
      cases l3
    have lp : pre.length = m := by
      rw [List.length_append] at l3
      exact Nat.succ.inj l3
    refine iteF' (show ¬ (!decide (V.int ((((pre ++ [n]).map V.str).length : Nat) : Int) = V.int ((m + 1 : Nat) : Int))) = true by rw [List.length_map, l3, decide_eq_true rfl]; decide) ?_
    have emap : (pre ++ [n]).map V.str = pre.map V.str ++ [.str n] := List.map_append
    rw [emap] at hL1 hL
    refine ⟨_, rfl, rfl, _, rfl, ?_⟩
    refine iteF' (fun h => nr (V.str.inj (of_decide_eq_true h))) ?_
    refine ⟨_, rfl, _, rfl, _, rfl, l, _, rfl, hL1, fun p hp => ?_⟩
    rw [cut_init]
    have s2 := sd.trans (same_new (o := .lst (pre.map V.str)) hp)
    have gp : (upd H1 p (.lst (pre.map V.str))) p = some (.lst (pre.map V.str)) := upd_same
    generalize upd H1 p (.lst (pre.map V.str)) = H2 at *
    have m2 : m ≤ 2 := by
      rcases hm with ⟨_, h⟩ | ⟨_, h⟩ <;> omega
    refine ⟨p, rfl, ⟨_, SqL.of gp⟩, fun D hD => ?_⟩
    refine lc_mapLV (K := K) (a := p) (xs := pre.map V.str) ((glW pre).map V.int) (by unfold glW; rw [List.length_map, List.length_map, List.length_map]) (by rw [List.length_map]; omega) hD (SqL.of gp) (fun _ => rfl) (fun _ _ _ q => q) (fun i x y H' Q hx hy s q => ?_) (fun H3 s3 gD => ?_)
    · obtain ⟨z, hz, rfl⟩ := str_at hx
      refine ⟨_, rfl, z, rfl, fun H2 s2 => ?_⟩
      unfold glW at hy
      rw [List.getElem?_map, List.getElem?_map, hz] at hy
      cases Option.some.inj hy
      exact q _ s2
    have s23 := s2.trans s3
    refine ⟨_, rfl, D, _, rfl, .inl (SqL.of gD), rfl, flat_ints _, _, rfl, ?_⟩
    rw [show (if false = true then !inV (V.int 0) ((glW pre).map V.int) else inV (V.int 0) ((glW pre).map V.int)) = inV (V.int 0) ((glW pre).map V.int) from rfl, inV_int]
    have tl0 : formT kn form pre n = (if form = "close" then closeR kn (pre ++ [n]) else if form = "turn" then turnR kn (pre ++ [n]) else prodR kn (form :: (pre ++ [n]))) := by
      rcases hm with ⟨e, hm⟩ | ⟨e, hm⟩
      · rw [if_pos e]
        obtain ⟨a, rfl⟩ : ∃ a, pre = [a] := by
          match pre, lp.trans hm with
          | [a], _ => exact ⟨a, rfl⟩
        exact closeR_T e
      · rw [if_neg (by rw [e]; decide +kernel), if_pos e]
        obtain ⟨a, b, rfl⟩ := two (lp.trans hm)
        exact turnR_T e
    rw [← tl0] at qn qs
    cases ea : allR gateR pre with
    | none =>
      rw [decide_eq_true (glW_none.mpr ea)]
      refine iteT ?_
      refine iteT' rfl ?_
      exact qn (by unfold formT; rw [ea]; cases glk kn n <;> rfl) _ s23
    | some gs =>
    have m0 : (0 : Int) ∉ glW pre := fun z => by
      rw [glW_none.mp z] at ea
      cases ea
    rw [decide_eq_false m0]
    refine iteF ?_
    rw [glW_some ea] at gD
    have lg : gs.length = m := by
      rw [(allR_some ea).1, lp]
    refine turn_test (gs := gs) rfl rfl (SqL.of gD) (hm.elim (fun h => .inl (by rw [h.1]; decide +kernel)) fun h => .inr (lg.trans h.2)) ?_
    have hL3 := SqL.ext hL s23
    have gk3 := s23 _ _ gk
    by_cases bad : form = "turn" ∧ gs[0]? = gs[1]?
    · refine iteT' (decide_eq_true bad) ?_
      refine qn ?_ _ s23
      unfold formT
      rw [ea]
      cases glk kn n with
      | none => rfl
      | some ga => exact if_pos bad
    refine iteF' (by rw [decide_eq_false bad]; decide) ?_
    refine ⟨_, rfl, rfl, _, rfl, ?_⟩
    refine iteF' (fun h => nr (V.str.inj (of_decide_eq_true h))) ?_
    cases eg : glk kn n with
    | none =>
      refine ⟨_, rfl, _, rfl, l, _, -1, .str n, rfl, rfl, hL3, atI_last _ _, _, rfl, kd, none, rfl, .inl ⟨kvs, .inr n, .inl gk3, rfl, (hkn.no eg).symm⟩, _, rfl, ?_⟩
      refine iteT' rfl ?_
      refine iteT' rfl ?_
      exact qn (by unfold formT; rw [eg]) _ s23
    | some ga =>
    obtain ⟨va, va1, va2⟩ := hkn.get eg
    obtain ⟨aa, rfl, va3⟩ := va2.gs
    refine ⟨_, rfl, _, rfl, l, _, -1, .str n, rfl, rfl, hL3, atI_last _ _, _, rfl, kd, some (.ref aa), rfl, .inl ⟨kvs, .inr n, .inl gk3, rfl, va1.symm⟩, _, rfl, ?_⟩
    refine iteF' (by simp) ?_
    refine ⟨_, rfl, D, rfl, ⟨_, SqL.of gD⟩, fun D2 hD2 => ?_⟩
    refine lc_mapLV (K := K) (a := D) (xs := gs.map V.int) ((gs.map fun g => decide (g ∈ ga)).map V.bl) (by rw [List.length_map, List.length_map, List.length_map]) (by rw [List.length_map]; omega) hD2 (SqL.of gD) (fun _ => rfl) (fun _ _ _ q => q) (fun i x y H' Q hx hy s q => ?_) (fun H4 s4 g4 => ?_)
    · obtain ⟨g, hg, rfl⟩ := int_at hx
      rw [List.getElem?_map, List.getElem?_map, hg] at hy
      cases Option.some.inj hy
      have s24 := s23.trans s
      refine ⟨_, rfl, _, rfl, _, rfl, _, rfl, l, _, -1, .str n, rfl, rfl, SqL.ext hL s24, atI_last _ _, kd, .ref aa, rfl, .inl ⟨kvs, .inr n, .inl (s24 _ _ gk), rfl, va1.symm⟩, aa, _, rfl, .inr (SqT.tk va3 (Same.tk s24)), rfl, flat_ints _, ?_⟩
      rw [show (if false = true then !inV (V.int g) (ga.map V.int) else inV (V.int g) (ga.map V.int)) = inV (V.int g) (ga.map V.int) from rfl, inV_int]
      exact q _ (Same.refl _)
    have s24 := s23.trans s4
    refine ⟨D2, _, rfl, SqL.of g4, _, rfl, ?_⟩
    by_cases an : ∃ g ∈ gs, g ∈ ga
    case neg =>
      have : ((gs.map fun g => decide (g ∈ ga)).any id) = false := by
        rw [List.any_eq_false]
        intro b hb
        obtain ⟨g, hg, rfl⟩ := List.mem_map.mp hb
        simp only [id, decide_eq_true_eq]
        exact fun h => an ⟨g, hg, h⟩
      rw [this]
      refine iteT' rfl ?_
      refine qn ?_ _ s24
      unfold formT
      rw [eg, ea]
      dsimp only
      rw [if_neg bad, if_neg an]
    have : ((gs.map fun g => decide (g ∈ ga)).any id) = true := by
      rw [List.any_eq_true]
      obtain ⟨g, hg, hm⟩ := an
      exact ⟨_, List.mem_map.mpr ⟨g, hg, rfl⟩, decide_eq_true hm⟩
    rw [this]
    refine iteF' (by decide) ?_
    refine ⟨_, rfl, _, rfl, _, rfl, _, rfl, l, _, rfl, SqL.ext hL s24, fun p1 hp1 => ?_⟩
    rw [cut_last]
    have s5 := same_new (o := .lst [.str n]) hp1
    have gD5 := s5 _ _ (s4 _ _ gD)
    refine ⟨D, p1, _, _, rfl, rfl, gD5, upd_same, ?_, fun p2 hp2 => ?_⟩
    · rw [List.length_map, lg]
      exact Nat.le_trans (show m + 1 ≤ 3 by omega) (by decide)
    have s6 := same_new (o := .lst (gs.map V.int ++ [.str n])) hp2
    refine ⟨p2, _, rfl, .inl ⟨SqL.of upd_same, fun a' ha' => ?_⟩⟩
    have sF := ((s24.trans s5).trans s6).trans (same_new (o := .tup (gs.map V.int ++ [.str n])) ha')
    have fT : formT kn form pre n = frmT gs n := by
      unfold formT
      rw [eg, ea]
      dsimp only
      rw [if_neg bad, if_pos an]
    rcases hm with ⟨e, hm⟩ | ⟨e, hm⟩
    · obtain ⟨g, rfl⟩ : ∃ g, gs = [g] := by
        match gs, lg.trans hm with
        | [g], _ => exact ⟨g, rfl⟩
      refine qs (.close g n) a' _ fT sF ?_
      exact .tup (SqT.of upd_same) (.cons (.int _) (.cons (.str _) .nil))
    · obtain ⟨g, h, rfl⟩ : ∃ g h, gs = [g, h] := by
        match gs, lg.trans hm with
        | [g, h], _ => exact ⟨g, h, rfl⟩
      refine qs (.turn g h n) a' _ fT sF ?_
      exact .tup (SqT.of upd_same) (.cons (.int _) (.cons (.int _) (.cons (.str _) .nil)))
end
end OG
set_option Elab.async false
set_option linter.all false
set_option maxRecDepth 100000
set_option maxHeartbeats 8000000
namespace OG
open PySem PySem.Spec PyProof.Rows L2 OGX
def KnNm (kn : Kn) : Prop := ∀ p ∈ kn, lnmB p.1 = true
theorem lnm_free {z : Str} (h : lnmB z = true) : ∀ w ∈ fWs, z ≠ w := by
  unfold lnmB at h
  simp only [Bool.and_eq_true, Bool.not_eq_true', decide_eq_false_iff_not] at h
  intro w hw e
  refine h.2.2 ?_
  rw [e]
  unfold fWs at hw
  simp only [List.mem_cons, List.mem_nil_iff, or_false] at hw ⊢
  rcases hw with h | h | h | h | h <;> simp [h]
theorem KnNm.free {kn : Kn} (h : KnNm kn) {z : Str} (hz : z ∈ fWs) : glk kn z = none := by
  cases e : glk kn z with
  | none => rfl
  | some gs => exact absurd rfl (lnm_free (h _ (glk_some e)) z hz)
theorem step2 {α : Type} (a b : α) : OGX.stepA [a, b] 0 = [a] := by
  unfold OGX.stepA
  show (List.range (3 / 2)).filterMap _ = _
  rfl
theorem star_no : gateR "*" = none ∧ facR "*" = none := by decide +kernel
/-- a star in the second place makes a product, or nothing -/
theorem formR_star {kn : Kn} (h : KnNm kn) {x b : Str} : formR kn [x, "*", b] = if (glk kn x).isSome = true ∧ (glk kn b).isSome = true then some (.prod x b) else none := by
  by_cases hx : x ∈ fWs
  · rw [if_neg (by rw [h.free hx]; exact fun z => by cases z.1)]
    unfold fWs at hx
    simp only [List.mem_cons, List.mem_nil_iff, or_false] at hx
    unfold formR
    dsimp only
    rcases hx with e | e | e | e | e
    · rw [if_pos e]
      unfold gatesR allR
      rw [star_no.1]
      rfl
    · rw [if_neg (by rw [e]; decide +kernel), if_pos e]
      rfl
    · rw [if_neg (by rw [e]; decide +kernel), if_neg (by rw [e]; decide +kernel), if_pos e]
      unfold closeR
      dsimp only
      cases glk kn b with
      | none => rfl
      | some gs =>
        rw [star_no.1]
    · rw [if_neg (by rw [e]; decide +kernel), if_neg (by rw [e]; decide +kernel), if_neg (by rw [e]; decide +kernel), if_pos e]
      rfl
    · rw [if_neg (by rw [e]; decide +kernel), if_neg (by rw [e]; decide +kernel), if_neg (by rw [e]; decide +kernel), if_neg (by rw [e]; decide +kernel), if_pos e]
      unfold addR
      rw [show OGX.stepA ([("*" : Str), b]) 0 = [("*" : Str)] from step2 _ _]
      unfold allR
      rw [star_no.2]
  · have n : ∀ w ∈ fWs, x ≠ w := fun w hw e => hx (e ▸ hw)
    unfold formR
    dsimp only
    rw [if_neg (n "one" (by decide)), if_neg (n "road" (by decide)), if_neg (n "close" (by decide)), if_neg (n "turn" (by decide)), if_neg (n "add" (by decide))]
    unfold prodR
    dsimp only
    by_cases c : (glk kn x).isSome = true ∧ (glk kn b).isSome = true
    · rw [if_pos ⟨rfl, c.1, c.2⟩, if_pos c]
    · rw [if_neg fun z => c ⟨z.2.1, z.2.2⟩, if_neg c]
/-- no word of a form, no star: nothing -/
theorem formR_no {kn : Kn} {x : Str} {t : List Str} (hx : x ∉ fWs) (hs : ∀ b : Str, t ≠ [("*" : Str), b]) : formR kn (x :: t) = none := by
  have n : ∀ w ∈ fWs, x ≠ w := fun w hw e => hx (e ▸ hw)
  unfold formR
  dsimp only
  rw [if_neg (n "one" (by decide)), if_neg (n "road" (by decide)), if_neg (n "close" (by decide)), if_neg (n "turn" (by decide)), if_neg (n "add" (by decide))]
  unfold prodR
  split
  · rename_i a m b e
    rw [if_neg]
    intro c
    have e := (List.cons.inj e).2
    exact hs b (by rw [e, c.1])
  · rfl
def lineWs (kn : Kn) : List Str → Option Ln
  | nm :: e :: ws => if lnmB nm = true ∧ glk kn nm = none ∧ e = "=" then (formR kn ws).map (Ln.mk nm) else none
  | _ => none
theorem lineR_ws {kn : Kn} {row : Str} : lineR kn row = lineWs kn (Txt.split row " ") := by
  unfold lineR
  generalize Txt.split row " " = ws
  cases ws with
  | nil => rfl
  | cons a r =>
    cases r with
    | nil => rfl
    | cons b r => rfl
theorem tAnd_no {ta tb : TT} {σ : L2.St} {H : Hp} {Q : Bool → Hp → Prop} (h : ∀ Q' : Bool → Hp → Prop, Q' false H → tAnd ta tb σ H Q') (q : Q false H) : tAnd ta tb σ H Q := h Q q
theorem cut3 (x y z : V) (r : List V) : cutV (x :: y :: z :: r) (some 3) none = r := by
  unfold cutV
  have e1 : HT.sIx (x :: y :: z :: r).length 0 (some 3) = 3 := by
    show min 3 (r.length + 1 + 1 + 1) = 3
    omega
  have e2 : HT.sIx (x :: y :: z :: r).length (x :: y :: z :: r).length none = r.length + 1 + 1 + 1 := rfl
  rw [e1, e2]
  show r.take (r.length + 1 + 1 + 1 - 3) = r
  exact List.take_of_length_le (by omega)
theorem formR_word {kn : Kn} {x : Str} {t : List Str} {f : Frm} (hx : x ∈ fWs) (h : formR kn (x :: t) = some f) : x = f.word := by
  unfold formR at h
  dsimp only at h
  split at h
  · rename_i e
    cases eg : gatesR t with
    | none => rw [eg] at h; cases h
    | some gs =>
      rw [eg] at h
      cases h
      exact e
  split at h
  · rename_i e
    unfold roadR at h
    split at h
    · split at h
      · split at h
        · cases h
          exact e
        · cases h
      · cases h
    · cases h
  split at h
  · rename_i e
    unfold closeR at h
    split at h
    · split at h
      · split at h
        · split at h
          · cases h
            exact e
          · cases h
        · cases h
      · cases h
    · cases h
  split at h
  · rename_i e
    unfold turnR at h
    split at h
    · split at h
      · split at h
        · split at h
          · cases h
          · split at h
            · cases h
              exact e
            · cases h
        · cases h
      · cases h
    · cases h
  split at h
  · rename_i e
    unfold addR at h
    split at h
    · split at h
      · cases h
        exact e
      · cases h
    · cases h
  · rename_i n1 n2 n3 n4 n5
    unfold fWs at hx
    simp only [List.mem_cons, List.mem_nil_iff, or_false] at hx
    rcases hx with e | e | e | e | e
    · exact absurd e n1
    · exact absurd e n2
    · exact absurd e n3
    · exact absurd e n4
    · exact absurd e n5
section
variable {P : Program} {w : World} {K : PySem.W.Frag} {mg : Str → Option Value} {base : Heap}
def spLAround (K : PySem.W.Frag) : Sp := fun vs H Q _ => ∃ (kd : Addr) (kn : Kn) (kvs : List (Key × V)) (row : Str), vs = [.ref kd, .str row] ∧ H kd = some (.dK kvs) ∧ KnD K H kvs kn ∧ KnOk kn ∧ KnNm kn ∧ RowOk row ∧ (lineR kn row = none → ∀ H', Same H H' → Q .non H') ∧
  ∀ (l : Ln) (a : Addr) (H' : Hp), lineR kn row = some l → Same H H' → Td K H' (.ref a) l.data → Q (.ref a) H'
theorem ok_l_around_line (T : Txt K mg) : FnOk P w K mg base CX0 5 T.f_l_around_line T.fd_l_around_line ["known", "row"] (spLAround K) := by
  refine T.F_l_around_line.ok sc_l_around_line (fun vs H Q E h => ?_) (fun cdv A outer s H vs Q E hr h => ?_)
  · obtain ⟨kd, kn, kvs, row, rfl, _⟩ := h
    rfl
  · obtain ⟨kd, kn, kvs, row, rfl, gk, hkn, hko, hnm, ro, qn, qs⟩ := h
    refine ⟨_, (pss_cons (ps_set (i := 2) sc_l_around_line.nd rfl (Or.inl rfl) (pe_split (pv 1) pe_str))
  (pss_cons (ps_if (PW.pt (pw_or (pt_cmpR op_lt (pe_callB call_len_seq (by rfl) T.n_len PySem.boot_len (pa_cons (pv 2) pa_nil)) pe_int (nomark _)) (pw_or (pt_cmpR op_ne (pe_ix ix_list (pv 2) pe_int (fun _ _ => rfl)) pe_str (nomark _)) (pw_or (pt_not (pt_val (pe_call (ok_l_script_is_name T) (hr.mono (by decide)) (by rfl) T.g_l_script_is_name T.F_l_script_is_name.kp T.b_l_script_is_name .nil pass0 (pa_cons (pe_ix ix_list (pv 2) pe_int (fun _ _ => rfl)) pa_nil)))) (pw_or1 (pt_cmp (pc_din (hu_of hr) (pe_ix ix_list (pv 2) pe_int (fun _ _ => rfl)) (pv 0)))))))) (pss_one (ps_ret pe_non)) pss_nil)
  (pss_cons (ps_if (PW.pt (pw_and (pt_cmpR op_eq (pe_callB call_len_seq (by rfl) T.n_len PySem.boot_len (pa_cons (pv 2) pa_nil)) pe_int (nomark _)) (pw_and1 (pt_cmpR op_eq (pe_ix ix_list (pv 2) pe_int (fun _ _ => rfl)) pe_str (nomark _))))) (pss_cons (ps_set (i := 3) sc_l_around_line.nd rfl (Or.inl rfl) (pe_and (pe_cmp (pc_din (hu_of hr) (pe_ix ix_list (pv 2) pe_int (fun _ _ => rfl)) (pv 0)) rfl) (pe_one (pe_cmp (pc_din (hu_of hr) (pe_ix ix_list (pv 2) pe_int (fun _ _ => rfl)) (pv 0)) rfl))))
  (pss_one (ps_ret (pe_ifExp (pt_val (pv 3)) (pe_tup (pa_cons (pe_ix ix_list (pv 2) pe_int (fun _ _ => rfl)) (pa_cons pe_str (pa_cons (pe_tup (pa_cons (pe_ix ix_list (pv 2) pe_int (fun _ _ => rfl)) (pa_cons (pe_ix ix_list (pv 2) pe_int (fun _ _ => rfl)) pa_nil))) pa_nil)))) pe_non)))) pss_nil)
  (pss_cons (ps_if (pt_cmpR op_notIn_seq (pe_ix ix_list (pv 2) pe_int (fun _ _ => rfl)) (pe_tup (pa_cons pe_str (pa_cons pe_str (pa_cons pe_str (pa_cons pe_str (pa_cons pe_str pa_nil)))))) rfl) (pss_one (ps_ret pe_non)) pss_nil)
  (pss_cons (ps_set (i := 4) sc_l_around_line.nd rfl (Or.inl rfl) (pe_call (ok_l_script_parts T) (hr.mono (by decide)) (by rfl) T.g_l_script_parts T.F_l_script_parts.kp T.b_l_script_parts .nil pass0 (pa_cons (pv 0) (pa_cons (pe_ix ix_list (pv 2) pe_int (fun _ _ => rfl)) (pa_cons (pe_slice sl_list (pv 2) (po_some pe_int) po_none) pa_nil)))))
  (pss_one (ps_ret (pe_ifExp (pt_cmpR op_isN (pv 4) pe_non (nomark _)) pe_non (pe_tup (pa_cons (pe_ix ix_list (pv 2) pe_int (fun _ _ => rfl)) (pa_cons (pe_ix ix_list (pv 2) pe_int (fun _ _ => rfl)) (pa_cons (pv 4) pa_nil)))))))))))), ?_⟩
    have wide : ∀ {n : Nat}, n ≤ 10000000 → n ≤ sizeLine := fun h => Nat.le_trans h (by decide)
    have rl := ro.tx.len
    refine ⟨_, rfl, ⟨_, rfl⟩, row, " ", rfl, rfl, rfl, wide (by omega), fun p hp => ?_⟩
    obtain ⟨n0, _, wt⟩ := ro.tx.split (y := " ") rfl (by decide +kernel)
    have w4 := ro.ws
    obtain ⟨ws, hws⟩ : ∃ ws, Txt.split row " " = ws := ⟨_, rfl⟩
    rw [lineR_ws, hws] at qn qs
    rw [hws] at wt w4 n0 ⊢
    have s0 := same_new (o := .lst (ws.map V.str)) hp
    have g0 : (upd H p (.lst (ws.map V.str))) p = some (.lst (ws.map V.str)) := upd_same
    generalize upd H p (.lst (ws.map V.str)) = H0 at *
    refine ⟨_, rfl, p, _, rfl, .inl (SqL.of g0), _, _, rfl, rfl, _, rfl, ?_⟩
    match ws, n0 with
    | [nm], _ =>
      refine iteT' (by rfl) ?_
      refine iteT' rfl ?_
      exact qn rfl _ s0
    | [nm, e], _ =>
      refine iteT' (by rfl) ?_
      refine iteT' rfl ?_
      refine qn ?_ _ s0
      show (if lnmB nm = true ∧ glk kn nm = none ∧ e = "=" then (none : Option Ln) else none) = none
      split <;> rfl
    | nm :: e :: x :: t, _ =>
      have w4 : t.length + 3 ≤ 4000 := w4
      refine iteF' (fun h => ?_) ?_
      · have := of_decide_eq_true h
        rw [List.length_map] at this
        have h : ((t.length + 3 : Nat) : Int) < 3 := this
        omega
      unfold lineWs at qn qs
      dsimp only at qn qs
      refine ⟨_, rfl, p, _, 1, .str e, rfl, rfl, SqL.of g0, atI_nat (j := 1) rfl, rfl, _, rfl, ?_⟩
      by_cases e1 : e = "="
      case neg =>
        rw [if_neg fun z => e1 z.2.2] at qn
        refine iteT' (by rw [decide_eq_false fun z => e1 (V.str.inj z)]; rfl) ?_
        refine iteT' rfl ?_
        exact qn rfl _ s0
      refine iteF' (by rw [decide_eq_true (congrArg V.str e1)]; decide) ?_
      refine ⟨_, rfl, p, _, 0, .str nm, rfl, rfl, SqL.of g0, atI_nat (j := 0) rfl, nm, rfl, (wt nm (by simp)).len, fun H1 s1 => ?_⟩
      have s01 := s0.trans s1
      refine ⟨_, rfl, ?_⟩
      cases e2 : lnmB nm with
      | false =>
        rw [if_neg fun z => by rw [e2] at z; cases z.1] at qn
        refine iteT' rfl ?_
        refine iteT' rfl ?_
        exact qn rfl _ s01
      | true =>
      refine iteF' (by decide) ?_
      have gk1 := s01 _ _ gk
      have hL1 : SqL K H1 p ((nm :: e :: x :: t).map V.str) := SqL.of (s1 _ _ g0)
      cases e3 : glk kn nm with
      | some gs =>
        obtain ⟨v, v1, _⟩ := hkn.get e3
        rw [if_neg fun z => by rw [e3] at z; cases z.2.1] at qn
        refine ⟨_, rfl, p, _, 0, .str nm, rfl, rfl, hL1, atI_nat (j := 0) rfl, _, rfl, kd, some v, rfl, .inl ⟨kvs, .inr nm, .inl gk1, rfl, v1.symm⟩, _, rfl, ?_⟩
        refine iteT' rfl ?_
        exact qn rfl _ s01
      | none =>
      rw [if_pos ⟨e2, e3, e1⟩] at qn qs
      refine ⟨_, rfl, p, _, 0, .str nm, rfl, rfl, hL1, atI_nat (j := 0) rfl, _, rfl, kd, none, rfl, .inl ⟨kvs, .inr nm, .inl gk1, rfl, (hkn.no e3).symm⟩, _, rfl, ?_⟩
      refine iteF' (by decide) ?_
      by_cases st : ∃ b, t = [("*" : Str), b]
      · obtain ⟨b, rfl⟩ := st
        refine ⟨_, rfl, p, _, rfl, .inl hL1, rfl, _, rfl, ?_⟩
        refine iteT' rfl ?_
        refine ⟨_, rfl, p, _, 3, .str "*", rfl, rfl, hL1, atI_nat (j := 3) rfl, rfl, _, rfl, ?_⟩
        refine iteT' rfl ?_
        rw [formR_star hnm] at qn qs
        have kx : ∀ {z : Str}, ∃ ov, ov.isSome = (glk kn z).isSome ∧ DGet H1 kd (.str z) ov := fun {z} => by
          cases e : glk kn z with
          | none => exact ⟨none, rfl, .inl ⟨kvs, .inr z, .inl gk1, rfl, (hkn.no e).symm⟩⟩
          | some gs =>
            obtain ⟨v, v1, _⟩ := hkn.get e
            exact ⟨some v, rfl, .inl ⟨kvs, .inr z, .inl gk1, rfl, v1.symm⟩⟩
        obtain ⟨ox, ox1, ox2⟩ := kx (z := x)
        obtain ⟨ob, ob1, ob2⟩ := kx (z := b)
        refine ⟨_, rfl, p, _, 2, .str x, rfl, rfl, hL1, atI_nat (j := 2) rfl, _, rfl, kd, ox, rfl, ox2, _, rfl, ?_⟩
        rw [ox1]
        cases cx : (glk kn x).isSome with
        | false =>
          rw [if_neg fun z => by rw [cx] at z; cases z.1] at qn
          refine iteF ?_
          refine ⟨_, rfl, false, rfl, ?_⟩
          refine iteF ?_
          exact qn rfl _ s01
        | true =>
        refine iteT ?_
        refine ⟨_, rfl, p, _, 4, .str b, rfl, rfl, hL1, atI_nat (j := 4) rfl, _, rfl, kd, ob, rfl, ob2, ?_⟩
        rw [ob1]
        cases cb : (glk kn b).isSome with
        | false =>
          rw [if_neg fun z => by rw [cb] at z; cases z.2] at qn
          refine ⟨_, rfl, false, rfl, ?_⟩
          refine iteF ?_
          exact qn rfl _ s01
        | true =>
        rw [if_pos ⟨cx, cb⟩] at qs
        refine ⟨_, rfl, true, rfl, ?_⟩
        refine iteT ?_
        refine ⟨_, rfl, p, _, 0, .str nm, rfl, rfl, hL1, atI_nat (j := 0) rfl, _, rfl, p, _, 2, .str x, rfl, rfl, hL1, atI_nat (j := 2) rfl, _, rfl, p, _, 4, .str b, rfl, rfl, hL1, atI_nat (j := 4) rfl, wide (show 2 ≤ 10000000 by decide), fun t1 ht1 => ⟨wide (show 3 ≤ 10000000 by decide), fun t2 ht2 => ?_⟩⟩
        have st1 := same_new (o := .tup [.str x, .str b]) ht1
        have st2 := same_new (o := .tup [.str nm, .str "*", .ref t1]) ht2
        refine qs ⟨nm, .prod x b⟩ t2 _ rfl ((s01.trans st1).trans st2) ?_
        exact .tup (SqT.of upd_same) (.cons (.str _) (.cons (.str _) (.cons (.tup (SqT.of (st2 _ _ upd_same)) (.cons (.str _) (.cons (.str _) .nil))) .nil)))
      dsimp only [tNext, tSeq, tIfS]
      refine tAnd_no (fun Q' q' => ?_) ?_
      · refine ⟨_, rfl, p, _, rfl, .inl hL1, rfl, _, rfl, ?_⟩
        match t, st with
        | [m, b], st =>
          refine iteT' rfl ?_
          refine ⟨_, rfl, p, _, 3, .str m, rfl, rfl, hL1, atI_nat (j := 3) rfl, rfl, _, rfl, ?_⟩
          rw [decide_eq_false fun z => st ⟨b, by rw [V.str.inj z]⟩]
          exact q'
        | [], _ =>
          refine iteF' (show ¬ (decide (V.int 3 = V.int 5) = true) by decide) ?_
          exact q'
        | [_], _ =>
          refine iteF' (show ¬ (decide (V.int 4 = V.int 5) = true) by decide) ?_
          exact q'
        | _ :: _ :: _ :: r, _ =>
          refine iteF' (fun h => ?_) ?_
          · have := V.int.inj (of_decide_eq_true h)
            rw [List.length_map] at this
            have h : ((r.length + 6 : Nat) : Int) = 5 := this
            omega
          exact q'
      refine iteF' (by decide) ?_
      refine ⟨_, rfl, p, _, 2, .str x, rfl, rfl, hL1, atI_nat (j := 2) rfl, wide (show 5 ≤ 10000000 by decide), fun tq htq => ⟨tq, fWs.map V.str, rfl, .inr (SqT.of upd_same), rfl, flat_strs _, _, rfl, ?_⟩⟩
      rw [show (if true = true then !inV (V.str x) (fWs.map V.str) else inV (V.str x) (fWs.map V.str)) = !inV (V.str x) (fWs.map V.str) from rfl, inV_str]
      have s02 := s01.trans (same_new (o := .tup (fWs.map V.str)) htq)
      have hL2 : SqL K (upd H1 tq (.tup (fWs.map V.str))) p ((nm :: e :: x :: t).map V.str) := SqL.ext hL1 (same_new htq)
      have e5 : upd H1 tq (.tup [.str "one", .str "road", .str "close", .str "turn", .str "add"]) = upd H1 tq (.tup (fWs.map V.str)) := rfl
      rw [e5]
      generalize upd H1 tq (.tup (fWs.map V.str)) = H2 at *
      by_cases hx : x ∈ fWs
      case neg =>
        rw [decide_eq_false hx]
        refine iteT' rfl ?_
        exact qn (by rw [formR_no hx fun b hb => st ⟨b, hb⟩]; rfl) _ s02
      rw [decide_eq_true hx]
      refine iteF' (by decide) ?_
      refine ⟨_, rfl, _, rfl, p, _, 2, .str x, rfl, rfl, hL2, atI_nat (j := 2) rfl, _, rfl, _, rfl, p, _, rfl, hL2, fun p3 hp3 => ?_⟩
      rw [show cutV ((nm :: e :: x :: t).map V.str) (some 3) none = t.map V.str from cut3 _ _ _ _]
      have s3 := same_new (o := .lst (t.map V.str)) hp3
      have s03 := s02.trans s3
      have hL3 := SqL.ext hL2 s3
      have wo : WsOk t := ⟨by omega, fun z hz => wt z (List.mem_cons_of_mem _ (List.mem_cons_of_mem _ (List.mem_cons_of_mem _ hz)))⟩
      refine ⟨kd, p3, kn, kvs, x, t, rfl, s03 _ _ gk, hkn.mv (Same.tk s03), hko, hx, SqL.of upd_same, wo, fun ef H4 s4 => ?_, fun f a H4 ef s4 td => ?_⟩
      · refine ⟨_, rfl, rfl, _, rfl, ?_⟩
        refine iteT' rfl ?_
        exact qn (by rw [ef]; rfl) _ (s03.trans s4)
      · refine ⟨_, rfl, rfl, _, rfl, ?_⟩
        refine iteF ?_
        have hL4 := SqL.ext hL3 s4
        refine ⟨_, rfl, p, _, 0, .str nm, rfl, rfl, hL4, atI_nat (j := 0) rfl, _, rfl, p, _, 2, .str x, rfl, rfl, hL4, atI_nat (j := 2) rfl, _, rfl, wide (show 3 ≤ 10000000 by decide), fun t2 ht2 => ?_⟩
        have st2 := same_new (o := .tup [.str nm, .str x, .ref a]) ht2
        refine qs ⟨nm, f⟩ t2 _ (by rw [ef]; rfl) ((s03.trans s4).trans st2) ?_
        refine .tup (SqT.of upd_same) (.cons (.str _) (.cons ?_ (.cons (td.mv (Same.tk st2)) .nil)))
        rw [show x = f.word from formR_word hx ef]
        exact .str _
end
end OG
set_option Elab.async false
set_option linter.all false
set_option maxRecDepth 100000
set_option maxHeartbeats 8000000
namespace OG
open PySem PySem.Spec PyProof.Rows L2 OGX
/-- for i, x in enumerate(list): the pair is a new tuple at T -/
theorem for_enum {K : PySem.W.Frag} {a : Addr} {xs : List V} {g : TG} {tb : TS} {D : Ends} {σ : L2.St} {H : Hp} (Pv : Nat → L2.St → Hp → Prop) (h0 : Pv 0 σ H) (hq : ∀ i σ H, Pv i σ H → SqL K H a xs)
    (hs : ∀ (i : Nat) (x : V) (T : Addr) (σ : L2.St) (H : Hp), xs[i]? = some x → Pv i σ H → H T = none → g (.ref T) σ (upd H T (.tup [.int (i : Nat), x])) fun σ2 H2 => tb { D with nx := Pv (i + 1), ct := Pv (i + 1), bk := D.nx } σ2 H2) (hd : ∀ σ H, Pv xs.length σ H → D.nx σ H) :
    ∃ W : Nat → Nat → L2.St → Hp → Prop, (∃ m, W 0 m σ H) ∧ ∀ i m σ H, W i m σ H →
      ((Ite K a).stop i H ∧ D.nx σ H) ∨ ((Ite K a).go i H ∧ ∃ N : L2.St → Hp → Prop, (∀ σ' H', N σ' H' → ∃ m', m' < m ∧ W (i + 1) m' σ' H') ∧ ∀ v H', (Ite K a).yld i H v H' → g v σ H' fun σ2 H2 => tb { D with nx := N, ct := N, bk := D.nx } σ2 H2) := by
  refine ⟨fun i m σ H => m = xs.length - i ∧ i ≤ xs.length ∧ Pv i σ H, ⟨xs.length, rfl, Nat.zero_le _, h0⟩, ?_⟩
  rintro i m σ H ⟨rfl, hi, p⟩
  have q := hq i σ H p
  by_cases hlt : i < xs.length
  · refine .inr ⟨⟨xs, xs[i], q, List.getElem?_eq_getElem hlt⟩, Pv (i + 1), fun σ' H' p' => ⟨xs.length - (i + 1), by omega, rfl, hlt, p'⟩, fun v H' hy => ?_⟩
    obtain ⟨T, x, rfl, nT, rfl, f⟩ := hy
    exact hs i x T σ H (f xs q) p nT
  · have e : i = xs.length := by omega
    subst e
    exact .inl ⟨⟨xs, q, Nat.le_refl _⟩, hd σ H p⟩
theorem KnNm.nil : KnNm [] := fun p h => by cases h
theorem KnNm.one {kn : Kn} (h : KnNm kn) {z : Str} {gs : List Int} (hz : lnmB z = true) : KnNm (kn ++ [(z, gs)]) := fun p hp => by
  rcases List.mem_append.mp hp with hp | hp
  · exact h p hp
  · rw [List.mem_singleton.mp hp]
    exact hz
def wV : Nat ⊕ List Ln → V
  | .inl n => .int n
  | .inr _ => .non
section
variable {P : Program} {w : World} {K : PySem.W.Frag} {mg : Str → Option Value} {base : Heap}
def spLWrong : Sp := fun vs H Q _ => ∃ (v : V), vs = [v] ∧ NearV H v ∧ ∀ H', Same H H' → Q (wV (valR v)) H'
theorem ok_l_wrong (T : Txt K mg) : FnOk P w K mg base CX0 6 T.f_l_wrong T.fd_l_wrong ["value"] (spLWrong) := by
  refine T.F_l_wrong.ok sc_l_wrong (fun vs H Q E h => ?_) (fun cdv A outer s H vs Q E hr h => ?_)
  · obtain ⟨v, rfl, _⟩ := h
    rfl
  · obtain ⟨v, rfl, hv, q⟩ := h
    refine ⟨_, (pss_cons (ps_if (pt_not (pt_val (pe_callB call_isi (by rfl) T.n_isinstance (by decide +kernel) (pa_cons (pv 0) (pa_cons (pe_bltn (v := .ty "str") (by rfl) T.n_str (by decide +kernel) rfl) pa_nil))))) (pss_one (ps_ret pe_int)) pss_nil)
  (pss_cons (ps_par (i := 1) (j := 2) (by rfl) sc_l_wrong.nd rfl rfl (by decide) rfl rfl (pa_cons (pe_split (pv 0) pe_str) (pa_cons pe_dnewK pa_nil)) (by rfl))
  (pss_cons (ps_if (pt_cmpR op_ne (pe_ix ix_list (pv 1) pe_int (fun _ _ => rfl)) pe_str (nomark _)) (pss_one (ps_ret pe_int)) pss_nil)
  (pss_cons (ps_for PassesOwn.never rfl (pi_enum (by rfl) T.n_enumerate (pa_cons (pe_slice sl_list (pv 1) (po_some pe_int) po_none) pa_nil)) (pg_tup (by rfl) (pgs_cons (pg_name (i := 3) sc_l_wrong.nd rfl (Or.inl rfl)) (pgs_cons (pg_name (i := 4) sc_l_wrong.nd rfl (Or.inl rfl)) pgs_nil))) (pss_cons (ps_set (i := 5) sc_l_wrong.nd rfl (Or.inl rfl) (pe_call (ok_l_around_line T) (hr.mono (by decide)) (by rfl) T.g_l_around_line T.F_l_around_line.kp T.b_l_around_line .nil pass0 (pa_cons (pv 2) (pa_cons (pv 4) pa_nil))))
  (pss_cons (ps_if (pt_cmpR op_isN (pv 5) pe_non (nomark _)) (pss_one (ps_ret (pe_op op_add (pv 3) pe_int))) pss_nil)
  (pss_one (ps_dput (hu_of hr) (pv 2) (pe_ix ix_tup (pv 5) pe_int (fun _ _ => rfl)) (pe_call (ok_l_script_line_gates T) (hr.mono (by decide)) (by rfl) T.g_l_script_line_gates T.F_l_script_line_gates.kp T.b_l_script_line_gates .nil pass0 (pa_cons (pv 2) (pa_cons (pe_ix ix_tup (pv 5) pe_int (fun _ _ => rfl)) (pa_cons (pe_ix ix_tup (pv 5) pe_int (fun _ _ => rfl)) pa_nil)))) rfl)))))
  (pss_one (ps_ret (pe_ifExp (pt_cmpR op_eq (pe_callB call_len_seq (by rfl) T.n_len PySem.boot_len (pa_cons (pv 1) pa_nil)) pe_int (nomark _)) pe_int pe_non))))))), ?_⟩
    have wide : ∀ {n : Nat}, n ≤ 10000000 → n ≤ sizeLine := fun h => Nat.le_trans h (by decide)
    obtain ⟨t, ty, kt⟩ := isi_ty (K := K) hv
    refine ⟨_, rfl, _, _, t, _, isStr v, rfl, .ty _, ty, kt, ?_⟩
    refine ⟨_, rfl, ?_⟩
    by_cases isv : isStr v = true
    case neg =>
      refine iteT' (by rw [Bool.not_eq_true] at isv; rw [isv]; rfl) ?_
      have := q _ (Same.refl _)
      cases v <;> first | exact this | exact absurd rfl isv
    obtain ⟨z, rfl⟩ : ∃ z, v = .str z := by
      cases v <;> first | exact ⟨_, rfl⟩ | cases isv
    have ok : TextOk z := hv
    refine iteF' (by rw [isv]; decide) ?_
    have zl := ok.tx.len
    obtain ⟨n0, _, _⟩ := ok.tx.split (y := "\n") rfl (by decide +kernel)
    have n4 := ok.n
    have rok := ok.rows
    have q : ∀ H', Same H H' → Q (wV (textR z)) H' := q
    unfold textR at q
    obtain ⟨hd, rs, er⟩ : ∃ hd rs, Txt.split z "\n" = hd :: rs := by
      cases e : Txt.split z "\n" with
      | nil => exact absurd e n0
      | cons a r => exact ⟨a, r, rfl⟩
    refine ⟨_, rfl, ⟨_, rfl⟩, z, "\n", rfl, rfl, rfl, wide (by omega), fun p hp kd hkd => ?_⟩
    rw [er] at q n4 rok hkd ⊢
    dsimp only at q
    have n4 : rs.length + 1 ≤ 4000 := n4
    have rok : ∀ r ∈ rs, RowOk r := fun r hr => rok r (List.mem_cons_of_mem _ hr)
    have sA := same_new (o := .lst ((hd :: rs).map V.str)) hp
    have sB := same_new (o := .dK []) hkd
    have fk : H kd = none := fresh_of sA hkd
    have g0 : (upd (upd H p (.lst ((hd :: rs).map V.str))) kd (.dK [])) p = some (.lst ((hd :: rs).map V.str)) := sB _ _ upd_same
    have gk : (upd (upd H p (.lst ((hd :: rs).map V.str))) kd (.dK [])) kd = some (.dK []) := upd_same
    have s0 := sA.trans sB
    generalize upd (upd H p (.lst ((hd :: rs).map V.str))) kd (.dK []) = H0 at *
    refine ⟨_, _, rfl, ?_⟩
    refine ⟨_, rfl, p, _, 0, .str hd, rfl, rfl, SqL.of g0, atI_nat (j := 0) rfl, rfl, _, rfl, ?_⟩
    by_cases e1 : hd = "script"
    case neg =>
      rw [if_neg e1] at q
      refine iteT' (by rw [decide_eq_false fun z => e1 (V.str.inj z)]; rfl) ?_
      exact q _ s0
    rw [if_pos e1] at q
    refine iteF' (by rw [decide_eq_true (congrArg V.str e1)]; decide) ?_
    refine ⟨_, rfl, _, rfl, p, _, rfl, SqL.of g0, fun sl hsl => ?_⟩
    rw [show cutV ((hd :: rs).map V.str) (some 1) none = rs.map V.str from cut1 _ _]
    have s2 := same_new (o := .lst (rs.map V.str)) hsl
    have gs : (upd H0 sl (.lst (rs.map V.str))) sl = some (.lst (rs.map V.str)) := upd_same
    have nsk : sl ≠ kd := fun e => by
      rw [e, gk] at hsl
      cases hsl
    have npk : p ≠ kd := fun e => by
      rw [e, gk] at g0
      cases g0
    have gk := s2 _ _ gk
    have g0 := s2 _ _ g0
    have s3 := s0.trans s2
    generalize upd H0 sl (.lst (rs.map V.str)) = H2 at *
    refine ⟨sl, _, rfl, SqL.of gs, ?_⟩
    refine for_enum (K := K) (a := sl) (xs := rs.map V.str) (fun i σ H' => ∃ (u3 u4 u5 : Option V) (kvs : List (Key × V)) (ls : List Ln), σ = [some (.str z), some (.ref p), some (.ref kd), u3, u4, u5] ∧ Same H H' ∧ H' sl = some (.lst (rs.map V.str)) ∧ H' p = some (.lst ((hd :: rs).map V.str)) ∧
        H' kd = some (.dK kvs) ∧ KnD K H' kvs (knOf [] ls) ∧ KnOk (knOf [] ls) ∧ KnNm (knOf [] ls) ∧ ls.length = i ∧ i ≤ rs.length ∧ rowsR [] 2 rs = joinR ls (rowsR (knOf [] ls) (i + 2) (rs.drop i)))
      ⟨_, _, _, [], [], rfl, s3, gs, g0, gk, .nil, KnOk.nil, KnNm.nil, rfl, Nat.zero_le _, by
        show _ = joinR [] (rowsR [] 2 rs)
        cases rowsR [] 2 rs <;> rfl⟩ (fun i σ H' ⟨_, _, _, _, _, _, _, gs, _⟩ => SqL.of gs) ?_ ?_
    · rintro i x T0 σ H' hx ⟨u3, u4, u5, kvs, ls, rfl, s, gs, g0, gk, kn, ko, nm, li, hi, hrs⟩ hT0
      obtain ⟨row, hz, rfl⟩ := str_at hx
      have hil := (List.getElem?_eq_some_iff.mp hz).1
      have ed : rs.drop i = row :: rs.drop (i + 1) := by
        rw [List.drop_eq_getElem_cons hil, (List.getElem?_eq_some_iff.mp hz).2]
      rw [ed] at hrs
      have u1 := same_new (o := .tup [.int (i : Nat), .str row]) hT0
      refine ⟨T0, _, rfl, SqT.of upd_same, rfl, _, _, rfl, _, _, rfl, rfl, ?_⟩
      generalize upd H' T0 (.tup [.int (i : Nat), .str row]) = H3 at *
      refine ⟨_, rfl, _, rfl, kd, _, kvs, row, rfl, u1 _ _ gk, kn.mv (Same.tk u1), ko, nm, rok row (List.mem_of_getElem? hz), fun el H4 u2 => ?_, fun l a H4 el u2 tdl => ?_⟩
      · refine ⟨_, rfl, rfl, _, rfl, ?_⟩
        refine iteT' rfl ?_
        refine ⟨_, rfl, _, _, rfl, rfl, ?_⟩
        have q := q H4 ((s.trans u1).trans u2)
        rw [if_neg (fun z => by rw [z] at hil; exact Nat.not_lt_zero _ hil), hrs, rowsR_no el] at q
        exact q
      rw [rowsR_more el] at hrs
      have u2 := u1.trans u2
      obtain ⟨b, pt, e, ha, hp⟩ := tdl.ln
      cases e
      refine ⟨_, rfl, rfl, _, rfl, ?_⟩
      refine iteF ?_
      have lw := lineR_w el
      refine ⟨_, rfl, _, rfl, a, _, 1, .str l.fm.word, rfl, rfl, ha, rfl, _, rfl, a, _, 2, .ref pt, rfl, rfl, ha, rfl, kd, pt, _, kvs, l.fm, rfl, u2 _ _ gk, kn.mv (Same.tk u2), ko, lw.1, hp, fun v H5 u3' gv => ?_⟩
      have u3 := u2.trans u3'
      refine ⟨_, rfl, _, rfl, a, _, 0, .str l.nm, rfl, rfl, SqT.tk ha (Same.tk u3'), rfl, kd, _, rfl, .inl ⟨kvs, .inr l.nm, u3 _ _ gk, rfl, ?_, rfl⟩, ?_⟩
      · rw [kn.len, knOf_len]
        exact Nat.lt_of_le_of_lt (show 0 + ls.length ≤ 4000 by omega) (by decide)
      have nk : valV kvs (.inr l.nm) = none := kn.no lw.2.2
      have tk := tk_dK (u3 _ _ gk) (o := .dK (putK kvs (.inr l.nm) v))
      refine ⟨_, _, _, putK kvs (.inr l.nm) v, ls ++ [l], rfl, fun c u hu => ?_, ?_, ?_, upd_same, ?_, ?_, ?_, by rw [List.length_append, li]; rfl, hil, hrs⟩
      · rw [upd_ne (ne_of_none hu fk)]
        exact u3 _ _ (s _ _ hu)
      · rw [upd_ne nsk]
        exact u3 _ _ gs
      · rw [upd_ne npk]
        exact u3 _ _ g0
      · rw [putK_new _ nk, knOf_snoc]
        rw [putK_new _ nk] at tk
        exact KnD.snoc (gv.mv tk) ((kn.mv (Same.tk u3)).mv tk)
      · rw [knOf_snoc]
        exact ko.one lw
      · rw [knOf_snoc]
        exact nm.one lw.2.1
    · rintro σ H' ⟨u3, u4, u5, kvs, ls, rfl, s, gs, g0, gk, kn, ko, nm, li, _, hrs⟩
      rw [List.length_map, List.drop_length] at hrs
      have q := q H' s
      refine ⟨_, rfl, p, _, rfl, .inl (SqL.of g0), rfl, _, rfl, ?_⟩
      by_cases e2 : rs = []
      · rw [if_pos e2] at q
        refine iteT' (by rw [e2]; rfl) ?_
        exact q
      · rw [if_neg e2, hrs] at q
        refine iteF' (fun h => ?_) ?_
        · have := V.int.inj (of_decide_eq_true h)
          rw [List.length_map, List.length_cons] at this
          have := List.length_pos_iff.mpr e2
          omega
        exact q
end
end OG
set_option Elab.async false
set_option linter.all false
set_option maxRecDepth 100000
set_option maxHeartbeats 8000000
namespace OG
open PySem PySem.Spec PyProof.Rows L2
/-- a text of so many signs, below 128 -/
structure Asc (n : Nat) (z : Str) : Prop where
  len : z.length ≤ n
  lo : ∀ c ∈ tl z, c < 128
theorem Asc.mono {n m : Nat} {z : Str} (h : Asc n z) (hn : n ≤ m) : Asc m z := ⟨Nat.le_trans h.len hn, h.lo⟩
theorem Asc.app {n m : Nat} {a b : Str} (h1 : Asc n a) (h2 : Asc m b) : Asc (n + m) (a ++ b) := by
  refine ⟨?_, fun c hc => ?_⟩
  · rw [app_len]
    have := h1.len
    have := h2.len
    omega
  · have e : tl (a ++ b) = tl a ++ tl b := TL.tl_append a b
    rw [e] at hc
    exact (List.mem_append.mp hc).elim (h1.lo c) (h2.lo c)
def ascB (z : Str) : Bool := (tl z).all fun c => decide (c < 128)
theorem asc_c {z : Str} (h : ascB z = true) : Asc z.length z := ⟨Nat.le_refl _, fun c hc => of_decide_eq_true (List.all_eq_true.mp h c hc)⟩
theorem Asc.split {n : Nat} {z y : Str} (h : Asc n z) (hy : y.length = 1) (h256 : y.cps.all (· < 256) = true) : Txt.split z y ≠ [] ∧ (Txt.split z y).length ≤ n + 1 ∧ ∀ p ∈ Txt.split z y, Asc n p := by
  obtain ⟨h1, h2, h3⟩ := split_facts z y hy h256
  have := h.len
  exact ⟨h1, by omega, fun p hp => ⟨Nat.le_trans (h3 p hp) h.len, fun c hc => h.lo c (split_mem hp hc)⟩⟩
theorem Asc.join {n m : Nat} {S : Str} {ls : List Str} (hS : S.length = 1) (hlo : ∀ c ∈ tl S, c < 128) (h : ∀ z ∈ ls, Asc n z) (hl : ls.length ≤ m) : Asc (m * (n + 1)) (Txt.join S ls) := by
  refine ⟨join_le (fun y hy => (h y hy).len) hl hS, fun c hc => ?_⟩
  have e := (congrArg TL.tl (TL.join_eq S ls)).trans (TL.tl_join S ls)
  have hc : c ∈ TL.tl (Txt.join S ls) := hc
  rw [e] at hc
  rcases joinL_mem hc with hc | ⟨l, hl', hc⟩
  · exact hlo c hc
  · obtain ⟨z, hz, rfl⟩ := List.mem_map.mp hl'
    exact (h z hz).lo c hc
theorem Asc.tx {n : Nat} {z : Str} (h : Asc n z) (hn : n ≤ 5000000) : TxOk 5000000 z := ⟨Nat.le_trans h.len hn, strOk_tl.mpr fun c hc => Nat.lt_trans (h.lo c hc) (by decide)⟩
theorem Asc.text {z : Str} (h : Asc 3990 z) : TextOk z := by
  obtain ⟨h1, h2, h3⟩ := h.split (y := "\n") rfl (by decide +kernel)
  refine ⟨h.tx (by decide), by omega, fun r hr => ?_⟩
  obtain ⟨g1, g2, g3⟩ := (h3 r hr).split (y := " ") rfl (by decide +kernel)
  exact ⟨(h3 r hr).tx (by decide), by omega⟩
/-! expressions that give texts, and leave the heap alone -/
def SE (te : TE) (σ : L2.St) (P : Str → Prop) : Prop := ∀ (H : Hp) (Q : VK), (∀ z, P z → Q (.str z) H) → te σ H Q
def rAddS : R2 := fun x y H Q => ∃ i j, x = .str i ∧ y = .str j ∧ i.length + j.length ≤ sizeLine ∧ Q (.str (i ++ j)) H
theorem SE.le {te : TE} {σ : L2.St} {n m : Nat} (h : SE te σ (Asc n)) (hn : n ≤ m) : SE te σ (Asc m) := fun H Q k => h H Q fun z hz => k z (hz.mono hn)
theorem SE.c {z : Str} {σ : L2.St} (h : ascB z = true) : SE (tC (.str z)) σ (Asc z.length) := fun H Q k => k z (asc_c h)
theorem SE.v {i : Nat} {σ : L2.St} {z : Str} {P : Str → Prop} (h : σ[i]? = some (some (.str z))) (hz : P z) : SE (tVar i) σ P := fun H Q k => ⟨_, h, k z hz⟩
theorem SE.add {ta tb : TE} {σ : L2.St} {n m : Nat} (h1 : SE ta σ (Asc n)) (h2 : SE tb σ (Asc m)) (hn : n + m ≤ 16000000) : SE (tOp rAddS ta tb) σ (Asc (n + m)) := fun H Q k => h1 H _ fun a ha => h2 H _ fun b hb => ⟨a, b, rfl, rfl, by
  have := ha.len
  have := hb.len
  exact Nat.le_trans (show a.length + b.length ≤ 16000000 by omega) (by decide), k _ (ha.app hb)⟩
def SL (ta : TA) (σ : L2.St) (P : Str → Prop) (n : Nat) : Prop := ∀ (H : Hp) (Q : List V → Hp → Prop), (∀ zs : List Str, zs.length = n → (∀ z ∈ zs, P z) → Q (zs.map V.str) H) → ta σ H Q
theorem SL.nil {σ : L2.St} {P : Str → Prop} : SL tNil σ P 0 := fun H Q k => k [] rfl fun _ h => by cases h
theorem SL.cons {ta : TE} {tr : TA} {σ : L2.St} {P : Str → Prop} {n : Nat} (h1 : SE ta σ P) (h2 : SL tr σ P n) : SL (tCons ta tr) σ P (n + 1) := fun H Q k => h1 H _ fun z hz => h2 H _ fun zs hl hz' => k (z :: zs) (by rw [List.length_cons, hl]) fun y hy => (List.mem_cons.mp hy).elim (fun e => e ▸ hz) (hz' y)
theorem SL.lst {ta : TA} {σ : L2.St} {P : Str → Prop} {n : Nat} {H : Hp} {Q : VK} (h : SL ta σ P n) (hn : n ≤ 10000) (k : ∀ (zs : List Str) (p : Addr), zs.length = n → (∀ z ∈ zs, P z) → H p = none → Q (.ref p) (upd H p (.lst (zs.map V.str)))) : tLst ta σ H Q :=
  h H _ fun zs hl hz => ⟨by rw [List.length_map, hl]; exact Nat.le_trans hn (by decide), fun p hp => k zs p hl hz hp⟩
theorem cat_more {ta : TA} {σ : L2.St} {P : Str → Prop} {n i : Nat} {H : Hp} {Q : VK} {fl : Addr} {zs : List Str} (hv : σ[i]? = some (some (.ref fl))) (hz : H fl = some (.lst (zs.map V.str))) (h : SL ta σ P n) (hn : zs.length + n ≤ 10000)
    (k : ∀ (ws : List Str) (q : Addr) (H' : Hp), ws.length = n → (∀ z ∈ ws, P z) → Same H H' → H q = none → H' q = some (.lst ((zs ++ ws).map V.str)) → Q (.ref q) H') : tOp rCat (tVar i) (tLst ta) σ H Q := by
  refine ⟨_, hv, ?_⟩
  refine h.lst (by omega) fun ws p hl hw hp => ?_
  have s1 := same_new (o := .lst (ws.map V.str)) hp
  refine ⟨fl, p, _, _, rfl, rfl, s1 _ _ hz, upd_same, ?_, fun q hq => ?_⟩
  · rw [List.length_map, List.length_map]
    exact Nat.le_trans (show zs.length + ws.length ≤ 10000 by omega) (by decide)
  · refine k ws q _ hl hw (s1.trans (same_new hq)) ?_ ?_
    · cases e : H q with
      | none => rfl
      | some o =>
        rw [s1 _ _ e] at hq
        cases hq
    · rw [upd_same, List.map_append]
theorem ret_of {t : TE} {D : Ends} {σ : L2.St} {H : Hp} (h : t σ H D.rt) : tRet t D σ H := h
theorem cat2 {ta tb : TA} {σ : L2.St} {P : Str → Prop} {n m : Nat} {H : Hp} {Q : VK} (h1 : SL ta σ P n) (h2 : SL tb σ P m) (hn : n + m ≤ 10000)
    (k : ∀ (zs : List Str) (q : Addr) (H' : Hp), zs.length = n + m → (∀ z ∈ zs, P z) → Same H H' → H q = none → H' q = some (.lst (zs.map V.str)) → Q (.ref q) H') : tOp rCat (tLst ta) (tLst tb) σ H Q := by
  show tLst _ _ _ _
  refine h1.lst (by omega) fun z1 p1 l1 a1 n1 => ?_
  show tLst _ _ _ _
  refine h2.lst (by omega) fun z2 p2 l2 a2 n2 => ?_
  have s1 := same_new (o := .lst (z1.map V.str)) n1
  have s2 := same_new (o := .lst (z2.map V.str)) n2
  refine ⟨p1, p2, _, _, rfl, rfl, s2 _ _ upd_same, upd_same, ?_, fun q3 n3 => ?_⟩
  · rw [List.length_map, List.length_map, l1, l2]
    exact Nat.le_trans hn (by decide)
  refine k (z1 ++ z2) q3 _ (by rw [List.length_append, l1, l2]) (fun z hz => (List.mem_append.mp hz).elim (a1 z) (a2 z)) ((s1.trans s2).trans (same_new n3)) (fresh_of (s1.trans s2) n3) ?_
  rw [upd_same, List.map_append]
theorem seq_set {te : TE} {i : Nat} {b : TS} {D : Ends} {σ : L2.St} {H : Hp} (h : te σ H fun x H1 => b D (σ.set i (some x)) H1) : tSeq (tAsg te (gName i)) b D σ H := h
theorem ifE_of {c : TT} {a b : TE} {σ : L2.St} {H : Hp} {Q : VK} (h : c σ H fun b' H1 => if b' = true then a σ H1 Q else b σ H1 Q) : tIf c a b σ H Q := h
def SEb (te : TE) (σ : L2.St) (m : Nat) : Prop := SE te σ (Asc m)
theorem SEb.of {te : TE} {σ : L2.St} {n m : Nat} (h : SE te σ (Asc n)) (hn : n ≤ m) : SEb te σ m := h.le hn
theorem SL.consB {te : TE} {tr : TA} {σ : L2.St} {n m : Nat} (h : SEb te σ m) (h2 : SL tr σ (Asc m) n) : SL (tCons te tr) σ (Asc m) (n + 1) := SL.cons h h2
theorem seq_forL {K : PySem.W.Frag} {ta : TA} {g : TG} {tb b : TS} {D : Ends} {σ : L2.St} {H : Hp} {P : Str → Prop} {n : Nat} (h : SL ta σ P n) (hn : n ≤ 10000)
    (k : ∀ (zs : List Str) (p : Addr), zs.length = n → (∀ z ∈ zs, P z) → H p = none → tFor (fun _ H R => R (Itl K p) H) g tb { D with nx := b D } σ (upd H p (.lst (zs.map V.str)))) : tSeq (tFor (iList K (tLst ta)) g tb) b D σ H := by
  unfold tSeq tFor iList
  exact h.lst hn fun zs p hl hz hp => ⟨p, rfl, ⟨_, SqL.of upd_same⟩, k zs p hl hz hp⟩
theorem app_str {K : PySem.W.Frag} {te : TE} {D : Ends} {σ : L2.St} {H : Hp} {i m : Nat} {l : Addr} {zs : List Str} (hv : σ[i]? = some (some (.ref l))) (hz : H l = some (.lst (zs.map V.str))) (h : SEb te σ m) (hn : zs.length ≤ 10000)
    (k : ∀ z, Asc m z → D.nx σ (upd H l (.lst ((zs ++ [z]).map V.str)))) : tDrop (tBM K "list" rAppend (tVar i) (tCons te tNil)) D σ H := by
  refine ⟨_, hv, .inl ⟨rfl, _, SqL.of hz⟩, ?_⟩
  refine h H _ fun z ha => ?_
  refine ⟨l, _, .str z, rfl, rfl, hz, ?_, ?_⟩
  · rw [List.length_map]
    exact Nat.lt_of_le_of_lt hn (by decide)
  · have := k z ha
    rw [List.map_append] at this
    exact this
end OG
set_option Elab.async false
set_option linter.all false
set_option maxRecDepth 100000
set_option maxHeartbeats 8000000
namespace OG
open PySem PySem.Spec PyProof.Rows L2
/-- a value that is asked, and is not the pot -/
structure WV (p : Addr) (H : Hp) (v : V) : Prop where
  near : NearV H v
  np : ∀ a, v = .ref a → a ≠ p
section
variable {p : Addr} {H H' : Hp} {v : V}
theorem WV.same (h : WV p H v) (s : Same H H') : WV p H' v := ⟨NearV.same s h.near, h.np⟩
theorem WV.kp (h : WV p H v) (k : Kp p H H') : WV p H' v := by
  obtain ⟨h, n⟩ := h
  refine ⟨?_, n⟩
  cases v with
  | ref a =>
    have na := n a rfl
    rcases h with ⟨xs, h⟩ | ⟨xs, h⟩ | ⟨xs, h⟩
    · exact .inl ⟨xs, k _ _ na h⟩
    · exact .inr (.inl ⟨xs, k _ _ na h⟩)
    · exact .inr (.inr ⟨xs, k _ _ na h⟩)
  | _ => exact h
theorem WV.dr {k : Nat} (h : WV p H v) (d : Dr p k H H') : WV p H' v := h.kp d.1
theorem wv_non : WV p H .non := ⟨trivial, fun a h => by cases h⟩
theorem wv_bl (b : Bool) : WV p H (.bl b) := ⟨trivial, fun a h => by cases h⟩
theorem wv_int (i : Int) : WV p H (.int i) := ⟨trivial, fun a h => by cases h⟩
theorem wv_str {z : Str} (h : Asc 3990 z) : WV p H (.str z) := ⟨h.text, fun a h => by cases h⟩
theorem wv_c {z : Str} (h : (decide (z.length ≤ 3990) && ascB z) = true) : WV p H (.str z) := by
  rw [Bool.and_eq_true] at h
  exact wv_str ((asc_c h.2).mono (of_decide_eq_true h.1))
theorem wv_lst {a : Addr} {xs : List V} (h : H a = some (.lst xs)) (n : a ≠ p) : WV p H (.ref a) := ⟨.inl ⟨xs, h⟩, fun b e => by cases e; exact n⟩
theorem wv_tup {a : Addr} {xs : List V} (h : H a = some (.tup xs)) (n : a ≠ p) : WV p H (.ref a) := ⟨.inr (.inl ⟨xs, h⟩), fun b e => by cases e; exact n⟩
theorem wv_dic {a : Addr} {xs : List (Key × V)} (h : H a = some (.dK xs)) (n : a ≠ p) : WV p H (.ref a) := ⟨.inr (.inr ⟨xs, h⟩), fun b e => by cases e; exact n⟩
end
/-- values, beside the pot -/
def Vls (p : Addr) (H : Hp) (xs : List V) : Prop := (∃ o, H p = some o) ∧ ∀ x ∈ xs, WV p H x
section
variable {p a : Addr} {H H' : Hp} {x : V} {xs ys vs : List V}
theorem Vls.nil (h : ∃ o, H p = some o) : Vls p H [] := ⟨h, fun _ h => by cases h⟩
theorem Vls.cons (h : WV p H x) (r : Vls p H xs) : Vls p H (x :: xs) := ⟨r.1, fun y hy => by
  rcases List.mem_cons.mp hy with rfl | e
  · exact h
  · exact r.2 y e⟩
theorem Vls.app (a : Vls p H xs) (b : Vls p H ys) : Vls p H (xs ++ ys) := ⟨a.1, fun x hx => (List.mem_append.mp hx).elim (a.2 x) (b.2 x)⟩
theorem Vls.same (a : Vls p H xs) (s : Same H H') : Vls p H' xs := ⟨a.1.imp fun o h => s _ _ h, fun x hx => (a.2 x hx).same s⟩
theorem Vls.fresh (N : Vls p H xs) (n : H a = none) : a ≠ p := fun z => by
  obtain ⟨o, h⟩ := N.1
  rw [z, h] at n
  cases n
theorem vnT (n : H a = none) (N : Vls p H xs) : Vls p (upd H a (.tup vs)) (.ref a :: xs) := .cons (wv_tup upd_same (N.fresh n)) (N.same (same_new n))
theorem vnL (n : H a = none) (N : Vls p H xs) : Vls p (upd H a (.lst vs)) (.ref a :: xs) := .cons (wv_lst upd_same (N.fresh n)) (N.same (same_new n))
theorem vnD {kvs : List (Key × V)} (n : H a = none) (N : Vls p H xs) : Vls p (upd H a (.dK kvs)) (.ref a :: xs) := .cons (wv_dic upd_same (N.fresh n)) (N.same (same_new n))
end
end OG
set_option Elab.async false
set_option linter.all false
set_option maxRecDepth 100000
set_option maxHeartbeats 8000000
namespace OG
open PySem PySem.Spec PyProof.Rows L2
section
variable {P : Program} {w : World} {K : PySem.W.Frag} {mg : Str → Option Value} {base : Heap}
def spOddV : Sp := fun vs H Q _ => ∃ (p : Addr) (k : Nat), vs = [.ref p] ∧ Pot (k + 1) H p ∧ ∀ (v : V) (H' : Hp), Dr p k H H' → WV p H' v → Q v H'
theorem ok_l_odd (T : Txt K mg) : FnOk P w K mg base CX0 3 T.f_l_odd T.fd_l_odd ["pot"] (spOddV) := by
  refine T.F_l_odd.ok sc_l_odd (fun vs H Q E h => ?_) (fun cdv A outer s H vs Q E hr h => ?_)
  · obtain ⟨p, k, rfl, _⟩ := h
    rfl
  · obtain ⟨p, k, rfl, hP, q⟩ := h
    refine ⟨_, (pss_cons (ps_set (i := 1) sc_l_odd.nd rfl (Or.inl rfl) (pe_lst (pa_cons pe_non (pa_cons pe_bl (pa_cons pe_bl (pa_cons pe_int (pa_cons pe_int (pa_cons (pe_un un_neg pe_int) (pa_cons pe_int (pa_cons (pe_op op_powW pe_int pe_int) (pa_cons pe_str (pa_cons pe_str (pa_cons pe_str (pa_cons pe_str (pa_cons pe_str (pa_cons pe_str (pa_cons (pe_tup pa_nil) (pa_cons (pe_lst pa_nil) (pa_cons pe_dnewK (pa_cons (pe_tup (pa_cons pe_int pa_nil)) pa_nil))))))))))))))))))))
  (pss_cons (ps_set (i := 1) sc_l_odd.nd rfl (Or.inl rfl) (pe_op op_cat (pv 1) (pe_lst (pa_cons (pe_tup (pa_cons pe_int (pa_cons pe_int pa_nil))) (pa_cons (pe_tup (pa_cons pe_int (pa_cons pe_int pa_nil))) (pa_cons (pe_tup (pa_cons pe_int (pa_cons pe_int pa_nil))) (pa_cons (pe_tup (pa_cons (pe_tup pa_nil) pa_nil)) (pa_cons (pe_lst (pa_cons pe_int pa_nil)) (pa_cons (pe_tup (pa_cons pe_non pa_nil)) (pa_cons (pe_disp (pps_cons pe_str pe_int pps_nil) (by rfl) (by rfl) (fun z => by cases z) (by decide)) (pa_cons (pe_tup (pa_cons pe_bl pa_nil)) (pa_cons (pe_tup (pa_cons pe_str pa_nil)) (pa_cons (pe_tup (pa_cons pe_str (pa_cons pe_str pa_nil))) (pa_cons pe_str (pa_cons pe_str pa_nil)))))))))))))))
  (pss_one (ps_ret (pe_call (ok_l_of T) (hr.mono (by decide)) (by rfl) T.g_l_of T.F_l_of.kp T.b_l_of .nil pass0 (pa_cons (pv 0) (pa_cons (pv 1) pa_nil))))))), ?_⟩
    refine ⟨_, rfl, _, _, rfl, rfl, pow_c (by decide), ?_⟩
    refine ⟨Nat.zero_le _, fun a1 n1 => ⟨Nat.zero_le _, fun a2 n2 => fun a3 n3 => ⟨Nat.le_trans (show 1 ≤ 1000 by decide) (by decide), fun a4 n4 => ⟨Nat.le_trans (show 18 ≤ 1000 by decide) (by decide), fun l1 hl1 => ?_⟩⟩⟩⟩
    have N1 := vnT (p := p) (vs := []) n1 (Vls.nil ⟨_, hP.lst.choose_spec⟩)
    have N2 := vnL (vs := []) n2 N1
    have N3 := vnD (kvs := []) n3 N2
    have N4 := vnT (vs := [.int 0]) n4 N3
    have s4 := (same_new (o := .tup []) n1).trans ((same_new (o := .lst []) n2).trans ((same_new (o := .dK []) n3).trans (same_new (o := .tup [.int 0]) n4)))
    obtain ⟨xs1, hxs1⟩ : ∃ xs : List V, xs = [.non, .bl true, .bl false, .int 0, .int 1, .int (-1), .int 7, .int (10 ^ (8 : Int).toNat), .str "", .str "a", .str "x", .str "script", .str "script\nx = one", .str "same", .ref a1, .ref a2, .ref a3, .ref a4] := ⟨_, rfl⟩
    have h1 : (upd (upd (upd (upd (upd H a1 (.tup [])) a2 (.lst [])) a3 (.dK [])) a4 (.tup [.int 0])) l1 (.lst xs1)) l1 = some (.lst xs1) := upd_same
    rw [← hxs1]
    have r4 : ∀ {x}, x ∈ [V.ref a4, .ref a3, .ref a2, .ref a1] → WV p _ x := fun {x} hx => N4.2 x hx
    have A1 : Vls p (upd (upd (upd (upd H a1 (.tup [])) a2 (.lst [])) a3 (.dK [])) a4 (.tup [.int 0])) xs1 := by
      rw [hxs1]
      refine .cons wv_non (.cons (wv_bl true) (.cons (wv_bl false) (.cons (wv_int _) (.cons (wv_int _) (.cons (wv_int _) (.cons (wv_int _) (.cons (wv_int _) (.cons (wv_c (by decide +kernel)) (.cons (wv_c (by decide +kernel)) (.cons (wv_c (by decide +kernel)) (.cons (wv_c (by decide +kernel)) (.cons (wv_c (by decide +kernel)) (.cons (wv_c (by decide +kernel)) ?_)))))))))))))
      exact .cons (r4 (by simp)) (.cons (r4 (by simp)) (.cons (r4 (by simp)) (.cons (r4 (by simp)) (.nil N4.1))))
    have lx1 : xs1.length = 18 := by
      rw [hxs1]
      rfl
    have s5 := same_new (o := .lst xs1) hl1
    have A1 := A1.same s5
    have sA := s4.trans s5
    generalize upd (upd (upd (upd (upd H a1 (.tup [])) a2 (.lst [])) a3 (.dK [])) a4 (.tup [.int 0])) l1 (.lst xs1) = H1 at *
    refine ⟨.ref l1, rfl, ⟨Nat.le_trans (show 2 ≤ 1000 by decide) (by decide), fun b1 m1 => ⟨Nat.le_trans (show 2 ≤ 1000 by decide) (by decide), fun b2 m2 => ⟨Nat.le_trans (show 2 ≤ 1000 by decide) (by decide), fun b3 m3 => ⟨Nat.zero_le _, fun b4 m4 => ⟨Nat.le_trans (show 1 ≤ 1000 by decide) (by decide), fun b5 m5 => ⟨Nat.le_trans (show 1 ≤ 1000 by decide) (by decide), fun b6 m6 => ⟨Nat.le_trans (show 1 ≤ 1000 by decide) (by decide), fun b7 m7 => ?_⟩⟩⟩⟩⟩⟩⟩⟩
    have M1 := vnT (p := p) (vs := [.int 0, .int 1]) m1 (Vls.nil A1.1)
    have M2 := vnT (vs := [.int 1, .int 0]) m2 M1
    have M3 := vnT (vs := [.int 1, .int 1]) m3 M2
    have M4 := vnT (vs := []) m4 M3
    have M5 := vnT (vs := [.ref b4]) m5 M4
    have M6 := vnL (vs := [.int 0]) m6 M5
    have M7 := vnT (vs := [.non]) m7 M6
    have t7 := (same_new (o := .tup [.int 0, .int 1]) m1).trans ((same_new (o := .tup [.int 1, .int 0]) m2).trans ((same_new (o := .tup [.int 1, .int 1]) m3).trans ((same_new (o := .tup []) m4).trans ((same_new (o := .tup [.ref b4]) m5).trans ((same_new (o := .lst [.int 0]) m6).trans (same_new (o := .tup [.non]) m7))))))
    refine fun b8 m8 => ⟨upd_same, [(.inr "a", .int 1)], rfl, by decide, ?_⟩
    have M8 : Vls p _ _ := Vls.cons (p := p) (x := .ref b8) (wv_dic (xs := mergeK [] [(.inr "a", .int 1)]) upd_same (M7.fresh m8)) (M7.same (same_put (u := .dK []) (o := .dK (mergeK [] [(.inr "a", .int 1)])) m8))
    have t8 := t7.trans (same_put (u := .dK []) (o := .dK (mergeK [] [(.inr "a", .int 1)])) m8)
    refine ⟨Nat.le_trans (show 1 ≤ 1000 by decide) (by decide), fun b9 m9 => ⟨Nat.le_trans (show 1 ≤ 1000 by decide) (by decide), fun b10 m10 => ⟨Nat.le_trans (show 2 ≤ 1000 by decide) (by decide), fun b11 m11 => ⟨Nat.le_trans (show 12 ≤ 1000 by decide) (by decide), fun l2 hl2 => ?_⟩⟩⟩⟩
    have M9 := vnT (vs := [.bl true]) m9 M8
    have M10 := vnT (vs := [.str "a"]) m10 M9
    have M11 := vnT (vs := [.str "a", .str "b"]) m11 M10
    have t11 := t8.trans ((same_new (o := .tup [.bl true]) m9).trans ((same_new (o := .tup [.str "a"]) m10).trans (same_new (o := .tup [.str "a", .str "b"]) m11)))
    obtain ⟨xs2, hxs2⟩ : ∃ xs : List V, xs = [.ref b1, .ref b2, .ref b3, .ref b5, .ref b6, .ref b7, .ref b8, .ref b9, .ref b10, .ref b11, .str "parts", .str "rows"] := ⟨_, rfl⟩
    rw [← hxs2]
    have A2' := Vls.cons (M11.2 (.ref b1) (by simp)) (Vls.cons (M11.2 (.ref b2) (by simp)) (Vls.cons (M11.2 (.ref b3) (by simp)) (Vls.cons (M11.2 (.ref b5) (by simp)) (Vls.cons (M11.2 (.ref b6) (by simp)) (Vls.cons (M11.2 (.ref b7) (by simp)) (Vls.cons (M11.2 (.ref b8) (by simp)) (Vls.cons (M11.2 (.ref b9) (by simp)) (Vls.cons (M11.2 (.ref b10) (by simp)) (Vls.cons (M11.2 (.ref b11) (by simp)) (Vls.cons (wv_c (z := "parts") (by decide +kernel)) (Vls.cons (wv_c (z := "rows") (by decide +kernel)) (Vls.nil M11.1))))))))))))
    rw [← hxs2] at A2'
    have lx2 : xs2.length = 12 := by
      rw [hxs2]
      rfl
    have s12 := same_new (o := .lst xs2) hl2
    refine ⟨l1, l2, xs1, xs2, rfl, rfl, s12 _ _ (t11 _ _ h1), upd_same, by rw [lx1, lx2]; exact Nat.le_trans (show 30 ≤ 1000 by decide) (by decide), fun l3 hl3 => ?_⟩
    have s13 := same_new (o := .lst (xs1 ++ xs2)) hl3
    have sF := ((sA.trans t11).trans s12).trans s13
    have B := (((A1.same t11).app A2').same s12).same s13
    refine ⟨.ref p, rfl, .ref l3, rfl, p, l3, xs1 ++ xs2, k, rfl, hP.same sF, SqL.of upd_same, (hP.same ((sA.trans t11).trans s12)).ne hl3, by rw [List.length_append, lx1, lx2]; decide, by rw [List.length_append, lx1, lx2]; decide, fun i x H' hx d => ?_⟩
    exact q x H' ⟨(Same.kp sF).trans d.1, d.2⟩ ((B.2 x (List.mem_of_getElem? hx)).dr d)
end
end OG
set_option Elab.async false
set_option linter.all false
set_option maxRecDepth 100000
set_option maxHeartbeats 8000000
namespace OG
open PySem PySem.Spec PyProof.Rows L2 OGX
section
variable {P : Program} {w : World} {K : PySem.W.Frag} {mg : Str → Option Value} {base : Heap}
def spHeads : Sp := fun vs H Q _ => vs = [] ∧ ∀ (l : Addr) (zs : List Str) (H' : Hp), Same H H' → H l = none → H' l = some (.lst (zs.map V.str)) → zs.length = 26 → (∀ z ∈ zs, Asc 20 z) → Q (.ref l) H'
theorem ok_l_heads (T : Txt K mg) : FnOk P w K mg base CX0 1 T.f_l_heads T.fd_l_heads [] (spHeads) := by
  refine T.F_l_heads.ok sc_l_heads (fun vs H Q E h => ?_) (fun cdv A outer s H vs Q E hr h => ?_)
  · obtain ⟨rfl, _⟩ := h
    rfl
  · obtain ⟨rfl, q⟩ := h
    refine ⟨_, (pss_one (ps_ret (pe_op op_cat (pe_lst (pa_cons pe_str (pa_cons pe_str (pa_cons pe_str (pa_cons pe_str (pa_cons pe_str (pa_cons pe_str (pa_cons pe_str (pa_cons pe_str (pa_cons pe_str (pa_cons pe_str (pa_cons pe_str (pa_cons pe_str (pa_cons pe_str (pa_cons pe_str pa_nil))))))))))))))) (pe_lst (pa_cons pe_str (pa_cons pe_str (pa_cons pe_str (pa_cons pe_str (pa_cons pe_str (pa_cons pe_str (pa_cons pe_str (pa_cons pe_str (pa_cons pe_str (pa_cons pe_str (pa_cons pe_str (pa_cons pe_str pa_nil)))))))))))))))), ?_⟩
    refine ret_of (cat2 (P := Asc 20) (n := 14) (m := 12) ?_ ?_ (by decide) fun zs l H' hl hz s n g => q l zs H' s n g hl hz)
    · repeat refine SL.cons (SE.le (SE.c (by decide +kernel)) (by decide +kernel)) ?_
      exact SL.nil
    · repeat refine SL.cons (SE.le (SE.c (by decide +kernel)) (by decide +kernel)) ?_
      exact SL.nil
def spRests (K : PySem.W.Frag) : Sp := fun vs H Q _ => ∃ (a : Str) (g : Addr) (gs : List Int), vs = [.str a, .ref g] ∧ Asc 8 a ∧ SqT K H g (gs.map V.int) ∧ GsOk gs ∧ ∀ (l : Addr) (zs : List Str) (H' : Hp), Same H H' → H l = none → H' l = some (.lst (zs.map V.str)) → 1 ≤ zs.length ∧ zs.length ≤ 1000 → (∀ z ∈ zs, Asc 1100 z) → Q (.ref l) H'
theorem rep7 : Asc 1000 (repS "7" 1000) := by
  have : ((decide ((repS "7" 1000).length ≤ 1000)) && ascB (repS "7" 1000)) = true := by decide +kernel
  rw [Bool.and_eq_true] at this
  exact (asc_c this.2).mono (of_decide_eq_true this.1)
theorem istr_asc {g : Int} (h : 1 ≤ g ∧ g ≤ 4) : Asc 8 (istr g) := by
  have : g = 1 ∨ g = 2 ∨ g = 3 ∨ g = 4 := by omega
  rcases this with rfl | rfl | rfl | rfl <;> exact (asc_c (by decide +kernel)).mono (by decide +kernel)
theorem ok_l_rests (T : Txt K mg) : FnOk P w K mg base CX0 1 T.f_l_rests T.fd_l_rests ["a", "gates"] (spRests K) := by
  refine T.F_l_rests.ok sc_l_rests (fun vs H Q E h => ?_) (fun cdv A outer s H vs Q E hr h => ?_)
  · obtain ⟨a, g, gs, rfl, _⟩ := h
    rfl
  · obtain ⟨a, g, gs, rfl, ha, hT, hgs, q⟩ := h
    refine ⟨_, (C8.pss_cut (ps_par (i := 2) (j := 3) (by rfl) sc_l_rests.nd rfl rfl (by decide) rfl rfl (pa_cons (pe_ifExp (pt_cmpR (op_neD hr.units) (pv 1) (pe_tup pa_nil) (nomark _)) (pe_callTy call_str_int (by rfl) T.n_str (by decide +kernel) (pa_cons (pe_ix ix_tup (pv 1) pe_int (fun _ _ => rfl)) pa_nil)) pe_str) (pa_cons (pe_op op_mulS pe_str pe_int) pa_nil)) (by rfl))
  (pss_cons (ps_set (i := 4) sc_l_rests.nd rfl (Or.inl rfl) (pe_lst (pa_cons pe_str (pa_cons pe_str (pa_cons pe_str (pa_cons pe_str (pa_cons pe_str (pa_cons pe_str (pa_cons pe_str (pa_cons pe_str (pa_cons pe_str (pa_cons pe_str (pa_cons pe_str (pa_cons pe_str pa_nil))))))))))))))
  (pss_cons (ps_set (i := 4) sc_l_rests.nd rfl (Or.inl rfl) (pe_op op_cat (pv 4) (pe_lst (pa_cons pe_str (pa_cons pe_str (pa_cons pe_str (pa_cons pe_str (pa_cons pe_str (pa_cons pe_str (pa_cons pe_str pa_nil))))))))))
  (pss_cons (ps_set (i := 4) sc_l_rests.nd rfl (Or.inl rfl) (pe_op op_cat (pv 4) (pe_lst (pa_cons pe_str (pa_cons pe_str (pa_cons pe_str (pa_cons pe_str (pa_cons pe_str (pa_cons pe_str (pa_cons pe_str (pa_cons pe_str (pa_cons pe_str pa_nil))))))))))))
  (pss_cons (ps_set (i := 4) sc_l_rests.nd rfl (Or.inl rfl) (pe_op op_cat (pv 4) (pe_lst (pa_cons (pe_op op_add_str (pe_op op_add_str (pv 0) pe_str) (pv 0)) (pa_cons (pe_op op_add_str (pe_op op_add_str (pv 0) pe_str) (pv 0)) (pa_cons (pe_op op_add_str (pv 0) pe_str) (pa_cons (pe_op op_add_str pe_str (pv 0)) (pa_cons (pe_op op_add_str (pv 0) pe_str) (pa_cons (pe_op op_add_str pe_str (pv 0)) (pa_cons (pe_op op_add_str (pe_op op_add_str (pe_op op_add_str (pe_op op_add_str (pv 0) pe_str) (pv 0)) pe_str) (pv 0)) pa_nil))))))))))
  (pss_cons (ps_set (i := 4) sc_l_rests.nd rfl (Or.inl rfl) (pe_op op_cat (pv 4) (pe_lst (pa_cons (pe_op op_add_str (pe_op op_add_str (pe_op op_add_str pe_str (pv 2)) pe_str) (pv 0)) (pa_cons (pe_op op_add_str pe_str (pv 0)) (pa_cons (pe_op op_add_str pe_str (pv 0)) (pa_cons (pe_op op_add_str pe_str (pv 0)) (pa_cons pe_str (pa_cons (pe_op op_add_str pe_str (pv 0)) pa_nil)))))))))
  (pss_cons (ps_set (i := 4) sc_l_rests.nd rfl (Or.inl rfl) (pe_op op_cat (pv 4) (pe_lst (pa_cons (pe_op op_add_str (pe_op op_add_str pe_str (pv 0)) pe_str) (pa_cons (pe_op op_add_str pe_str (pv 0)) (pa_cons (pe_op op_add_str (pe_op op_add_str (pe_op op_add_str pe_str (pv 2)) pe_str) (pv 0)) (pa_cons (pe_op op_add_str (pe_op op_add_str (pe_op op_add_str pe_str (pv 2)) pe_str) (pv 0)) pa_nil)))))))
  (pss_cons (ps_set (i := 4) sc_l_rests.nd rfl (Or.inl rfl) (pe_op op_cat (pv 4) (pe_lst (pa_cons (pe_op op_add_str pe_str (pv 0)) (pa_cons (pe_op op_add_str pe_str (pv 0)) (pa_cons (pe_op op_add_str pe_str (pv 0)) (pa_cons pe_str (pa_cons (pe_op op_add_str pe_str (pv 0)) (pa_cons (pe_op op_add_str pe_str (pv 0)) pa_nil)))))))))
  (pss_cons (ps_for PassesOwn.never rfl (pi_list (pe_lst (pa_cons pe_str (pa_cons pe_str (pa_cons pe_str (pa_cons pe_str (pa_cons pe_str (pa_cons pe_str (pa_cons pe_str (pa_cons pe_str (pa_cons pe_str (pa_cons pe_str (pa_cons pe_str (pa_cons pe_str (pa_cons pe_str (pa_cons pe_str (pa_cons pe_str (pa_cons pe_str pa_nil)))))))))))))))))) (pg_name (i := 5) sc_l_rests.nd rfl (Or.inl rfl)) (pss_one (ps_expr (pe_bm PySem.F.plainAttrs_list PySem.F.slot_list_append PySem.F.type_list_append mt_append (pv 4) (pa_cons (pe_op op_add_str (pe_op op_add_str (pe_op op_add_str pe_str (pv 5)) pe_str) (pv 0)) pa_nil)))))
  (pss_cons (ps_for PassesOwn.never rfl (pi_list (pe_lst (pa_cons pe_str (pa_cons pe_str (pa_cons pe_str (pa_cons pe_str (pa_cons pe_str (pa_cons (pv 3) (pa_cons (pe_op op_add_str pe_str (pv 3)) (pa_cons (pe_op op_add_str (pv 3) pe_str) (pa_cons (pe_op op_add_str (pv 3) pe_str) (pa_cons (pe_op op_add_str (pe_op op_add_str pe_str (pv 3)) pe_str) pa_nil)))))))))))) (pg_name (i := 5) sc_l_rests.nd rfl (Or.inl rfl)) (pss_one (ps_expr (pe_bm PySem.F.plainAttrs_list PySem.F.slot_list_append PySem.F.type_list_append mt_append (pv 4) (pa_cons (pe_op op_add_str (pe_op op_add_str (pe_op op_add_str pe_str (pv 5)) pe_str) (pv 0)) pa_nil)))))
  (pss_cons (ps_set (i := 4) sc_l_rests.nd rfl (Or.inl rfl) (pe_op op_cat (pv 4) (pe_lst (pa_cons pe_str (pa_cons (pe_op op_add_str pe_str (pv 0)) (pa_cons pe_str (pa_cons pe_str (pa_cons (pe_op op_add_str (pe_op op_add_str pe_str (pv 0)) pe_str) (pa_cons (pe_op op_add_str (pe_op op_add_str pe_str (pv 0)) pe_str) (pa_cons (pe_op op_add_str (pe_op op_add_str (pe_op op_add_str pe_str (pv 0)) pe_str) (pv 0)) pa_nil))))))))))
  (pss_one (ps_ret (pe_op op_cat (pv 4) (pe_lst (pa_cons (pe_op op_add_str (pe_op op_add_str pe_str (pv 0)) pe_str) (pa_cons (pe_op op_add_str pe_str (pv 0)) (pa_cons (pe_op op_add_str (pe_op op_add_str pe_str (pv 0)) pe_str) pa_nil)))))))))))))))))), ?_⟩
    have wide : ∀ {n : Nat}, n ≤ 10000000 → n ≤ sizeLine := fun h => Nat.le_trans h (by decide)
    refine ⟨fun σ H2 => ∃ (gate great : Str), σ = [some (.str a), some (.ref g), some (.str gate), some (.str great), none, none] ∧ Asc 8 gate ∧ Asc 1000 great ∧ Same H H2, ?_, ?_⟩
    · refine ⟨_, rfl, wide (show 0 ≤ 10000000 by decide), fun p hp => ?_⟩
      have s1 := same_new (o := .tup []) hp
      refine ⟨gsD gs, .tuple [], (td_gs (SqT.tk hT (Same.tk s1))).dp, .tup (SqT.of upd_same) .nil, shaped_ints gs, shaped_ints [], _, rfl, ?_⟩
      cases gs with
      | nil =>
        refine iteF' (by simp [gsD, PyData.eqv, PyData.eqvAll]) ?_
        exact ⟨"7", 1000, rfl, rfl, by decide, by decide, by decide, _, _, rfl, _, _, rfl, (asc_c (z := "1") (by decide +kernel)).mono (by decide +kernel), rep7, s1⟩
      | cons x r =>
        refine iteT' (by simp [gsD, PyData.eqv, PyData.eqvAll]) ?_
        have hx := hgs.rng x List.mem_cons_self
        refine ⟨_, rfl, g, _, 0, .int x, rfl, rfl, SqT.tk hT (Same.tk s1), atI_nat (j := 0) rfl, x, rfl, small_log (by omega) (by omega), ?_⟩
        exact ⟨"7", 1000, rfl, rfl, by decide, by decide, by decide, _, _, rfl, _, _, rfl, istr_asc hx, rep7, s1⟩
    rintro σ H1 ⟨gate, great, rfl, hg, hG, s1⟩
    refine seq_set (SL.lst (P := Asc 1100) (n := 12) ?_ (by decide) fun z0 l0 e0 a0 n0 => ?_)
    · skip
      repeat
        first
        | refine SL.consB ?_ ?_
        | exact SE.c (by decide +kernel)
        | exact SE.v rfl ha
        | exact SE.v rfl hg
        | exact SE.v rfl hG
        | apply SE.add
        | apply SEb.of
        | exact SL.nil
        | decide +kernel
    have s2 := s1.trans (same_new (o := .lst (z0.map V.str)) n0)
    have nf := fresh_of s1 n0
    have g2 : (upd H1 l0 (.lst (z0.map V.str))) l0 = some (.lst (z0.map V.str)) := upd_same
    generalize upd H1 l0 (.lst (z0.map V.str)) = H2 at *
    refine seq_set (cat_more (P := Asc 1100) (n := 7) rfl g2 ?_ (by omega) fun w1 l1 H3 e1 b1 t1 n1 g3 => ?_)
    · skip
      repeat
        first
        | refine SL.consB ?_ ?_
        | exact SE.c (by decide +kernel)
        | exact SE.v rfl ha
        | exact SE.v rfl hg
        | exact SE.v rfl hG
        | apply SE.add
        | apply SEb.of
        | exact SL.nil
        | decide +kernel
    have s3 := s2.trans t1
    have nf := fresh_of s2 n1
    obtain ⟨z1, ez1⟩ : ∃ z, z = z0 ++ w1 := ⟨_, rfl⟩
    have e1 : z1.length = z0.length + 7 := by rw [ez1, List.length_append, e1]
    have a1 : ∀ z ∈ z1, Asc 1100 z := fun z hz => (List.mem_append.mp (ez1 ▸ hz)).elim (a0 z) (b1 z)
    rw [← ez1] at g3
    refine seq_set (cat_more (P := Asc 1100) (n := 9) rfl g3 ?_ (by omega) fun w2 l2 H4 e2 b2 t2 n2 g4 => ?_)
    · skip
      repeat
        first
        | refine SL.consB ?_ ?_
        | exact SE.c (by decide +kernel)
        | exact SE.v rfl ha
        | exact SE.v rfl hg
        | exact SE.v rfl hG
        | apply SE.add
        | apply SEb.of
        | exact SL.nil
        | decide +kernel
    have s4 := s3.trans t2
    have nf := fresh_of s3 n2
    obtain ⟨z2, ez2⟩ : ∃ z, z = z1 ++ w2 := ⟨_, rfl⟩
    have e2 : z2.length = z1.length + 9 := by rw [ez2, List.length_append, e2]
    have a2 : ∀ z ∈ z2, Asc 1100 z := fun z hz => (List.mem_append.mp (ez2 ▸ hz)).elim (a1 z) (b2 z)
    rw [← ez2] at g4
    refine seq_set (cat_more (P := Asc 1100) (n := 7) rfl g4 ?_ (by omega) fun w3 l3 H5 e3 b3 t3 n3 g5 => ?_)
    · skip
      repeat
        first
        | refine SL.consB ?_ ?_
        | exact SE.c (by decide +kernel)
        | exact SE.v rfl ha
        | exact SE.v rfl hg
        | exact SE.v rfl hG
        | apply SE.add
        | apply SEb.of
        | exact SL.nil
        | decide +kernel
    have s5 := s4.trans t3
    have nf := fresh_of s4 n3
    obtain ⟨z3, ez3⟩ : ∃ z, z = z2 ++ w3 := ⟨_, rfl⟩
    have e3 : z3.length = z2.length + 7 := by rw [ez3, List.length_append, e3]
    have a3 : ∀ z ∈ z3, Asc 1100 z := fun z hz => (List.mem_append.mp (ez3 ▸ hz)).elim (a2 z) (b3 z)
    rw [← ez3] at g5
    refine seq_set (cat_more (P := Asc 1100) (n := 6) rfl g5 ?_ (by omega) fun w4 l4 H6 e4 b4 t4 n4 g6 => ?_)
    · skip
      repeat
        first
        | refine SL.consB ?_ ?_
        | exact SE.c (by decide +kernel)
        | exact SE.v rfl ha
        | exact SE.v rfl hg
        | exact SE.v rfl hG
        | apply SE.add
        | apply SEb.of
        | exact SL.nil
        | decide +kernel
    have s6 := s5.trans t4
    have nf := fresh_of s5 n4
    obtain ⟨z4, ez4⟩ : ∃ z, z = z3 ++ w4 := ⟨_, rfl⟩
    have e4 : z4.length = z3.length + 6 := by rw [ez4, List.length_append, e4]
    have a4 : ∀ z ∈ z4, Asc 1100 z := fun z hz => (List.mem_append.mp (ez4 ▸ hz)).elim (a3 z) (b4 z)
    rw [← ez4] at g6
    refine seq_set (cat_more (P := Asc 1100) (n := 4) rfl g6 ?_ (by omega) fun w5 l5 H7 e5 b5 t5 n5 g7 => ?_)
    · skip
      repeat
        first
        | refine SL.consB ?_ ?_
        | exact SE.c (by decide +kernel)
        | exact SE.v rfl ha
        | exact SE.v rfl hg
        | exact SE.v rfl hG
        | apply SE.add
        | apply SEb.of
        | exact SL.nil
        | decide +kernel
    have s7 := s6.trans t5
    have nf := fresh_of s6 n5
    obtain ⟨z5, ez5⟩ : ∃ z, z = z4 ++ w5 := ⟨_, rfl⟩
    have e5 : z5.length = z4.length + 4 := by rw [ez5, List.length_append, e5]
    have a5 : ∀ z ∈ z5, Asc 1100 z := fun z hz => (List.mem_append.mp (ez5 ▸ hz)).elim (a4 z) (b5 z)
    rw [← ez5] at g7
    refine seq_set (cat_more (P := Asc 1100) (n := 6) rfl g7 ?_ (by omega) fun w6 l6 H8 e6 b6 t6 n6 g8 => ?_)
    · skip
      repeat
        first
        | refine SL.consB ?_ ?_
        | exact SE.c (by decide +kernel)
        | exact SE.v rfl ha
        | exact SE.v rfl hg
        | exact SE.v rfl hG
        | apply SE.add
        | apply SEb.of
        | exact SL.nil
        | decide +kernel
    have s8 := s7.trans t6
    have nf := fresh_of s7 n6
    obtain ⟨z6, ez6⟩ : ∃ z, z = z5 ++ w6 := ⟨_, rfl⟩
    have e6 : z6.length = z5.length + 6 := by rw [ez6, List.length_append, e6]
    have a6 : ∀ z ∈ z6, Asc 1100 z := fun z hz => (List.mem_append.mp (ez6 ▸ hz)).elim (a5 z) (b6 z)
    rw [← ez6] at g8
    refine seq_forL (P := Asc 1010) (n := 16) ?_ (by decide) fun fs fl f1 f2 f3 => ?_
    · skip
      repeat
        first
        | refine SL.consB ?_ ?_
        | exact SE.c (by decide +kernel)
        | exact SE.v rfl ha
        | exact SE.v rfl hG
        | apply SE.add
        | apply SEb.of
        | exact SL.nil
        | decide +kernel
    have u1 := same_new (o := .lst (fs.map V.str)) f3
    refine for_list (K := K) (a := fl) (xs := fs.map V.str) (fun i σ H' => ∃ (u : Option V) (zs : List Str), σ = [some (.str a), some (.ref g), some (.str gate), some (.str great), some (.ref l6), u] ∧ Same H H' ∧ H' fl = some (.lst (fs.map V.str)) ∧ H' l6 = some (.lst (zs.map V.str)) ∧ zs.length = z6.length + i ∧ i ≤ 16 ∧ ∀ z ∈ zs, Asc 1100 z)
      ⟨_, z6, rfl, s8.trans u1, upd_same, u1 _ _ g8, rfl, Nat.zero_le _, a6⟩ (fun i σ H' _ ⟨_, _, _, _, hf, _⟩ => SqL.of hf) ?_ ?_
    · rintro i x σ H' hx ⟨u, zs, rfl, s9, hf, hz, hl, hi, az⟩
      obtain ⟨f, hfx, rfl⟩ := str_at hx
      have fa := f2 f (List.mem_of_getElem? hfx)
      have hi' := (List.getElem?_eq_some_iff.mp hfx).1
      refine app_str (m := 1100) (zs := zs) rfl hz ?_ (by omega) fun z hz' => ?_
      rotate_left
      · have nl : fl ≠ l6 := fun e => by
          rw [e] at f3
          rw [g8] at f3
          cases f3
        refine ⟨_, zs ++ [z], rfl, fun b o e => ?_, by rw [upd_ne nl]; exact hf, upd_same, by rw [List.length_append, hl]; show z6.length + i + 1 = _; omega, by omega, fun y hy => ?_⟩
        · rw [upd_ne (ne_of_none e nf)]
          exact s9 _ _ e
        · rcases List.mem_append.mp hy with hy | hy
          · exact az y hy
          · rw [List.mem_singleton.mp hy]
            exact hz'
      repeat
        first
        | exact SE.c (by decide +kernel)
        | exact SE.v rfl ha
        | exact SE.v rfl fa
        | apply SE.add
        | apply SEb.of
        | decide +kernel
    rintro σ H' ⟨u, z7, rfl, s9, hf, g9, hl7, hi, a7⟩
    rw [List.length_map, f1] at hl7
    clear hf hi
    dsimp only
    refine seq_forL (P := Asc 1010) (n := 10) ?_ (by decide) fun fs' fl' f1' f2' f3' => ?_
    · skip
      repeat
        first
        | refine SL.consB ?_ ?_
        | exact SE.c (by decide +kernel)
        | exact SE.v rfl ha
        | exact SE.v rfl hG
        | apply SE.add
        | apply SEb.of
        | exact SL.nil
        | decide +kernel
    have u2 := same_new (o := .lst (fs'.map V.str)) f3'
    refine for_list (K := K) (a := fl') (xs := fs'.map V.str) (fun i σ H' => ∃ (u : Option V) (zs : List Str), σ = [some (.str a), some (.ref g), some (.str gate), some (.str great), some (.ref l6), u] ∧ Same H H' ∧ H' fl' = some (.lst (fs'.map V.str)) ∧ H' l6 = some (.lst (zs.map V.str)) ∧ zs.length = z7.length + i ∧ i ≤ 10 ∧ ∀ z ∈ zs, Asc 1100 z)
      ⟨_, z7, rfl, s9.trans u2, upd_same, u2 _ _ g9, rfl, Nat.zero_le _, a7⟩ (fun i σ H' _ ⟨_, _, _, _, hf, _⟩ => SqL.of hf) ?_ ?_
    · rintro i x σ H'' hx ⟨u, zs, rfl, s9', hf, hz, hl, hi, az⟩
      obtain ⟨f, hfx, rfl⟩ := str_at hx
      have fa := f2' f (List.mem_of_getElem? hfx)
      have hi' := (List.getElem?_eq_some_iff.mp hfx).1
      refine app_str (m := 1100) (zs := zs) rfl hz ?_ (by omega) fun z hz' => ?_
      rotate_left
      · have nl : fl' ≠ l6 := fun e => by
          rw [e] at f3'
          rw [g9] at f3'
          cases f3'
        refine ⟨_, zs ++ [z], rfl, fun b o e => ?_, by rw [upd_ne nl]; exact hf, upd_same, by rw [List.length_append, hl]; show z7.length + i + 1 = _; omega, by omega, fun y hy => ?_⟩
        · rw [upd_ne (ne_of_none e nf)]
          exact s9' _ _ e
        · rcases List.mem_append.mp hy with hy | hy
          · exact az y hy
          · rw [List.mem_singleton.mp hy]
            exact hz'
      repeat
        first
        | exact SE.c (by decide +kernel)
        | exact SE.v rfl ha
        | exact SE.v rfl fa
        | apply SE.add
        | apply SEb.of
        | decide +kernel
    rintro σ H'' ⟨u, z8, rfl, s10, hf, g10, hl8, hi, a8⟩
    rw [List.length_map, f1'] at hl8
    clear hf hi
    dsimp only
    refine seq_set (cat_more (P := Asc 1100) (n := 7) rfl g10 ?_ (by omega) fun w9 l9 H9 e9 b9 t9 n9 g9 => ?_)
    · skip
      repeat
        first
        | refine SL.consB ?_ ?_
        | exact SE.c (by decide +kernel)
        | exact SE.v rfl ha
        | exact SE.v rfl hg
        | exact SE.v rfl hG
        | apply SE.add
        | apply SEb.of
        | exact SL.nil
        | decide +kernel
    refine ret_of (cat_more (P := Asc 1100) (n := 3) rfl g9 ?_ (by rw [List.length_append]; omega) fun w10 l10 H10 e10 b10 t10 n10 g10 => ?_)
    · skip
      repeat
        first
        | refine SL.consB ?_ ?_
        | exact SE.c (by decide +kernel)
        | exact SE.v rfl ha
        | exact SE.v rfl hg
        | exact SE.v rfl hG
        | apply SE.add
        | apply SEb.of
        | exact SL.nil
        | decide +kernel
    refine q l10 _ H10 ((s10.trans t9).trans t10) (fresh_of (s10.trans t9) n10) g10 ⟨?_, ?_⟩ fun z hz => ?_
    · rw [List.length_append, e10]
      omega
    · rw [List.length_append, List.length_append]
      omega
    · rcases List.mem_append.mp hz with hz | hz
      · exact (List.mem_append.mp hz).elim (a8 z) (b9 z)
      · exact b10 z hz
end
end OG
set_option Elab.async false
set_option linter.all false
set_option maxRecDepth 100000
set_option maxHeartbeats 8000000
namespace OG
open PySem PySem.Spec PyProof.Rows L2 OGX
/-! texts of lines: their signs, how they are split -/
/-- no blank, no line feed -/
def Free (z : Str) : Prop := 32 ∉ tl z ∧ 10 ∉ tl z
theorem Nice.free {z : Str} (h : Nice z) : Free z := ⟨fun m => absurd (h.lo _ m) (by decide), fun m => absurd (h.lo _ m) (by decide)⟩
theorem free_istr (i : Int) : Free (istr i) := ⟨istr_free (by decide), istr_free (by decide)⟩
theorem free_app {a b : Str} (h1 : Free a) (h2 : Free b) : Free (a ++ b) := by
  have e : tl (a ++ b) = tl a ++ tl b := TL.tl_append a b
  refine ⟨fun m => ?_, fun m => ?_⟩
  · rw [e] at m
    exact (List.mem_append.mp m).elim h1.1 h2.1
  · rw [e] at m
    exact (List.mem_append.mp m).elim h1.2 h2.2
theorem free_fac (f : Fac) : Free (facT f) := by
  unfold facT
  split
  · exact free_istr _
  · exact free_app (free_app (free_istr _) ⟨by decide +kernel, by decide +kernel⟩) (free_istr _)
theorem facs_asc : (allFacs.all fun f => ascB (facT f)) = true := by decide +kernel
/-- a word of a line -/
structure WdOk (z : Str) : Prop where
  asc : Asc 8 z
  free : Free z
theorem wd_c {z : Str} (h : (decide (z.length ≤ 8) && (ascB z && (!decide (32 ∈ tl z) && !decide (10 ∈ tl z)))) = true) : WdOk z := by
  simp only [Bool.and_eq_true, Bool.not_eq_true', decide_eq_false_iff_not] at h
  exact ⟨(asc_c h.2.1).mono (of_decide_eq_true h.1), h.2.2.1, h.2.2.2⟩
theorem wd_nice {z : Str} (h : Nice z) : WdOk z := ⟨⟨h.len, h.hi⟩, h.free⟩
theorem wd_gate {g : Int} (h : 1 ≤ g ∧ g ≤ 4) : WdOk (istr g) := ⟨istr_asc h, free_istr g⟩
theorem wd_fac {f : Fac} (h : FacOk f) : WdOk (facT f) := ⟨⟨h.low', (asc_c (List.all_eq_true.mp facs_asc f h.mem)).lo⟩, free_fac f⟩
theorem wd_words : ∀ z ∈ (["one", "road", "*", "close", "turn", "add"] : List Str), WdOk z := by
  intro z hz
  simp only [List.mem_cons, List.mem_nil_iff, or_false] at hz
  rcases hz with rfl | rfl | rfl | rfl | rfl | rfl <;> exact wd_c (by decide +kernel)
theorem wd_word (f : Frm) : WdOk f.word := by
  cases f <;> exact wd_words _ (by simp [Frm.word])
theorem wd_parts {f : Frm} (h : FrmFit f) (n : ∀ z ∈ f.strs, Nice z) : ∀ d ∈ f.partsL, ∀ z ∈ dW d, WdOk z := by
  have one : ∀ {y : Str}, Nice y → ∀ z ∈ dW (.str y), WdOk z := fun hy z hz => by
    rw [List.mem_singleton.mp hz]
    exact wd_nice hy
  have int : ∀ {g : Int}, (1 ≤ g ∧ g ≤ 4) → ∀ z ∈ dW (.int g), WdOk z := fun hg z hz => by
    rw [List.mem_singleton.mp hz]
    exact wd_gate hg
  intro d hd
  cases f with
  | one gs =>
    have hg : GsOk gs := h
    obtain ⟨g, hg', rfl⟩ := List.mem_map.mp hd
    exact int (hg.rng g hg')
  | road k g h' =>
    obtain ⟨_, h2, h3⟩ := h
    have hd : d ∈ [PyData.str k, .int g, .int h'] := hd
    simp only [List.mem_cons, List.mem_nil_iff, or_false] at hd
    rcases hd with rfl | rfl | rfl
    · exact one (n k List.mem_cons_self)
    · exact int h2
    · exact int h3
  | prod a b =>
    have hd : d ∈ [PyData.str a, .str b] := hd
    simp only [List.mem_cons, List.mem_nil_iff, or_false] at hd
    rcases hd with rfl | rfl
    · exact one (n _ List.mem_cons_self)
    · exact one (n _ (List.mem_cons_of_mem _ List.mem_cons_self))
  | close g a =>
    obtain ⟨h1, _⟩ := h
    have hd : d ∈ [PyData.int g, .str a] := hd
    simp only [List.mem_cons, List.mem_nil_iff, or_false] at hd
    rcases hd with rfl | rfl
    · exact int h1
    · exact one (n _ List.mem_cons_self)
  | turn g h' a =>
    obtain ⟨h1, h2, _⟩ := h
    have hd : d ∈ [PyData.int g, .int h', .str a] := hd
    simp only [List.mem_cons, List.mem_nil_iff, or_false] at hd
    rcases hd with rfl | rfl | rfl
    · exact int h1
    · exact int h2
    · exact one (n _ List.mem_cons_self)
  | add fs =>
    obtain ⟨_, h2⟩ := h
    obtain ⟨f, hf, rfl⟩ := List.mem_map.mp hd
    intro z hz
    have hz : z ∈ [facT f.1, f.2] := hz
    simp only [List.mem_cons, List.mem_nil_iff, or_false] at hz
    rcases hz with rfl | rfl
    · exact wd_fac (h2 f hf).1
    · exact wd_nice (n _ (List.mem_map.mpr ⟨f, hf, rfl⟩))
theorem wd_line {l : Ln} (h : LnFit l) (n : LnNice l) : ∀ z ∈ lineW l, WdOk z := by
  have gen : ∀ z ∈ [l.nm, "=", l.fm.word] ++ (l.fm.partsL.map dW).flatten, WdOk z := fun z hz => by
    rcases List.mem_append.mp hz with hz | hz
    · simp only [List.mem_cons, List.mem_nil_iff, or_false] at hz
      rcases hz with rfl | rfl | rfl
      · exact wd_nice n.nm
      · exact wd_c (by decide +kernel)
      · exact wd_word _
    · obtain ⟨ws, hw, hz⟩ := List.mem_flatten.mp hz
      obtain ⟨d, hd, rfl⟩ := List.mem_map.mp hw
      exact wd_parts h.fm n.fm d hd z hz
  obtain ⟨nm, fm⟩ := l
  cases fm with
  | prod a b =>
    intro z hz
    have hz : z ∈ [nm, "=", a, "*", b] := hz
    simp only [List.mem_cons, List.mem_nil_iff, or_false] at hz
    rcases hz with rfl | rfl | rfl | rfl | rfl
    · exact wd_nice n.nm
    · exact wd_c (by decide +kernel)
    · exact wd_nice (n.fm _ List.mem_cons_self)
    · exact wd_c (by decide +kernel)
    · exact wd_nice (n.fm _ (List.mem_cons_of_mem _ List.mem_cons_self))
  | one _ => exact gen
  | road _ _ _ => exact gen
  | close _ _ => exact gen
  | turn _ _ _ => exact gen
  | add _ => exact gen
theorem lineW_ne (l : Ln) : lineW l ≠ [] := by
  obtain ⟨nm, fm⟩ := l
  cases fm <;> exact List.cons_ne_nil _ _
theorem lineT_split {l : Ln} (h : LnFit l) (n : LnNice l) : Txt.split (lineT l) " " = lineW l := split_sp (lineW_ne l) fun z hz => (wd_line h n z hz).free.1
theorem lineT_asc {l : Ln} (h : LnFit l) (n : LnNice l) : Asc 99 (lineT l) := Asc.join (n := 8) (m := 11) rfl (by decide +kernel) (fun z hz => (wd_line h n z hz).asc) h.words.1
theorem lineT_free {l : Ln} (h : LnFit l) (n : LnNice l) : 10 ∉ tl (lineT l) := join_free (by decide) fun z hz => (wd_line h n z hz).free.2
/-- a text of few short lines of few short words -/
structure Few (z : Str) : Prop where
  ne : Txt.split z "\n" ≠ []
  n : (Txt.split z "\n").length ≤ 9
  ln : ∀ y ∈ Txt.split z "\n", Asc 99 y ∧ (Txt.split y " ").length ≤ 11 ∧ ∀ w ∈ Txt.split y " ", Asc 8 w
  asc : Asc 900 z
theorem textT_split {lns : List Ln} (f : ∀ l ∈ lns, LnFit l) (h : ∀ l ∈ lns, LnNice l) : Txt.split (textT lns) "\n" = ("script" : Str) :: lns.map lineT := split_nl (List.cons_ne_nil _ _) fun z hz => by
  rcases List.mem_cons.mp hz with rfl | hz
  · decide +kernel
  · obtain ⟨l, hl, rfl⟩ := List.mem_map.mp hz
    exact lineT_free (f l hl) (h l hl)
theorem few_text {lns : List Ln} (f : ∀ l ∈ lns, LnFit l) (h : ∀ l ∈ lns, LnNice l) (hl : lns.length ≤ 8) : Few (textT lns) := by
  have e := textT_split f h
  refine ⟨by rw [e]; exact List.cons_ne_nil _ _, by rw [e, List.length_cons, List.length_map]; omega, fun y hy => ?_, ?_⟩
  · rw [e] at hy
    rcases List.mem_cons.mp hy with rfl | hy
    · have : Txt.split ("script" : Str) " " = [("script" : Str)] := by decide +kernel
      rw [this]
      refine ⟨(asc_c (by decide +kernel)).mono (by decide +kernel), by decide, fun w hw => ?_⟩
      rw [List.mem_singleton.mp hw]
      exact (asc_c (by decide +kernel)).mono (by decide +kernel)
    · obtain ⟨l, hl', rfl⟩ := List.mem_map.mp hy
      refine ⟨lineT_asc (f l hl') (h l hl'), ?_⟩
      rw [lineT_split (f l hl') (h l hl')]
      exact ⟨(f l hl').words.1, fun w hw => (wd_line (f l hl') (h l hl') w hw).asc⟩
  · refine Asc.join (n := 99) (m := 9) rfl (by decide +kernel) (fun z hz => ?_) (by rw [List.length_cons, List.length_map]; omega)
    rcases List.mem_cons.mp hz with rfl | hz
    · exact (asc_c (by decide +kernel)).mono (by decide +kernel)
    · obtain ⟨l, hl', rfl⟩ := List.mem_map.mp hz
      exact lineT_asc (f l hl') (h l hl')
/-- signs below 128: as long in capitals -/
theorem Asc.upper {n : Nat} {z : Str} (h : Asc n z) : Asc n (Txt.upper z) := by
  have e := PyProof.Rows.upper_ascii (x := z) fun c hc => h.lo c hc
  have lt : ∀ c, c < 128 → PyProof.Rows.up1 c < 128 := by decide +kernel
  rw [e]
  refine ⟨?_, fun c hc => ?_⟩
  · show (z.cps.map PyProof.Rows.up1).size ≤ n
    rw [Array.size_map]
    exact h.len
  · have hc : c ∈ (z.cps.map PyProof.Rows.up1).toList := hc
    rw [Array.toList_map] at hc
    obtain ⟨d, hd, rfl⟩ := List.mem_map.mp hc
    exact lt d (h.lo d hd)
/-- texts of so many signs together, each with one more -/
structure AscS (b : Nat) (ls : List Str) : Prop where
  sum : (ls.map fun y => y.length + 1).sum ≤ b
  lo : ∀ z ∈ ls, ∀ c ∈ tl z, c < 128
theorem AscS.of {n m : Nat} {ls : List Str} (h : ∀ z ∈ ls, Asc n z) (hl : ls.length ≤ m) : AscS (m * (n + 1)) ls :=
  ⟨Nat.le_trans (sum_le (c := n + 1) fun z hz => Nat.succ_le_succ (h z hz).len) (Nat.mul_le_mul_right _ hl), fun z hz => (h z hz).lo⟩
theorem AscS.app {b1 b2 : Nat} {l1 l2 : List Str} (h1 : AscS b1 l1) (h2 : AscS b2 l2) : AscS (b1 + b2) (l1 ++ l2) := by
  refine ⟨?_, fun z hz => (List.mem_append.mp hz).elim (h1.lo z) (h2.lo z)⟩
  rw [List.map_append, List.sum_append]
  exact Nat.add_le_add h1.sum h2.sum
theorem AscS.mono {b c : Nat} {ls : List Str} (h : AscS b ls) (hc : b ≤ c) : AscS c ls := ⟨Nat.le_trans h.sum hc, h.lo⟩
theorem AscS.join {b : Nat} {S : Str} {ls : List Str} (hS : S.length = 1) (hlo : ∀ c ∈ tl S, c < 128) (h : AscS b ls) : Asc b (Txt.join S ls) := by
  refine ⟨?_, fun c hc => ?_⟩
  · have := join_len S ls
    rw [hS] at this
    exact Nat.le_trans this h.sum
  · have e := (congrArg TL.tl (TL.join_eq S ls)).trans (TL.tl_join S ls)
    have hc : c ∈ TL.tl (Txt.join S ls) := hc
    rw [e] at hc
    rcases joinL_mem hc with hc | ⟨l, hl', hc⟩
    · exact hlo c hc
    · obtain ⟨z, hz, rfl⟩ := List.mem_map.mp hl'
      exact h.lo z hz c hc
theorem sum_succ : ∀ ls : List Str, (ls.map fun y => y.length + 1).sum = (ls.map (·.length)).sum + ls.length
  | [] => rfl
  | y :: r => by
    rw [List.map_cons, List.sum_cons, List.map_cons, List.sum_cons, List.length_cons, sum_succ r]
    omega
theorem AscS.ok {b : Nat} {S : Str} {ls : List Str} (hS : S.length = 1) (h : AscS b ls) (hb : b ≤ 16777216) : (ls.map (·.length)).sum + ls.length * S.length ≤ 16777216 := by
  have := h.sum
  rw [sum_succ] at this
  rw [hS, Nat.mul_one]
  omega
theorem Asc.cut {n : Nat} {z : Str} (h : Asc n z) (lo hi : Option Int) : Asc n (cutS z lo hi) := by
  have e : tl (cutS z lo hi) = ((tl z).drop (HT.sIx z.length 0 lo)).take (HT.sIx z.length z.length hi - HT.sIx z.length 0 lo) := by
    unfold cutS
    show (((tl z).drop _).take _).toArray.toList = _
    rfl
  refine ⟨?_, fun c hc => ?_⟩
  · rw [TL.len_tl]
    show (tl (cutS z lo hi)).length ≤ n
    rw [e, List.length_take, List.length_drop]
    have := h.len
    rw [TL.len_tl] at this
    have this : (tl z).length ≤ n := this
    omega
  · rw [e] at hc
    exact h.lo c (List.mem_of_mem_drop (List.mem_of_mem_take hc))
end OG
set_option Elab.async false
set_option linter.all false
set_option maxRecDepth 100000
set_option maxHeartbeats 8000000
namespace OG
open PySem PySem.Spec PyProof.Rows L2
section
variable {P : Program} {w : World} {K : PySem.W.Frag} {mg : Str → Option Value} {base : Heap}
def spBLine : Sp := fun vs H Q _ => ∃ (p : Addr) (k : Nat) (y : Str), vs = [.ref p, .str y] ∧ Pot (k + 2) H p ∧ Asc 99 y ∧ (Txt.split y " ").length ≤ 11 ∧ (∀ w ∈ Txt.split y " ", Asc 8 w) ∧ ∀ (z : Str) (H' : Hp), Dr p k H H' → Asc 207 z → Q (.str z) H'
theorem ok_l_bent_line (T : Txt K mg) : FnOk P w K mg base CX0 3 T.f_l_bent_line T.fd_l_bent_line ["pot", "line"] (spBLine) := by
  refine T.F_l_bent_line.ok sc_l_bent_line (fun vs H Q E h => ?_) (fun cdv A outer s H vs Q E hr h => ?_)
  · obtain ⟨p, k, y, rfl, _⟩ := h
    rfl
  · obtain ⟨p, k, y, rfl, hP, hy, hn, hw, q⟩ := h
    refine ⟨_, (pss_cons (ps_set (i := 2) sc_l_bent_line.nd rfl (Or.inl rfl) (pe_split (pv 1) pe_str))
  (pss_cons (ps_set (i := 3) sc_l_bent_line.nd rfl (Or.inl rfl) (pe_call (ok_l_take T) (hr.mono (by decide)) (by rfl) T.g_l_take T.F_l_take.kp T.b_l_take .nil pass0 (pa_cons (pv 0) (pa_cons (pe_callB call_len_seq (by rfl) T.n_len PySem.boot_len (pa_cons (pv 2) pa_nil)) pa_nil))))
  (pss_cons (ps_set (i := 4) sc_l_bent_line.nd rfl (Or.inl rfl) (pe_lst (pa_cons pe_str (pa_cons pe_str (pa_cons pe_str (pa_cons pe_str (pa_cons pe_str (pa_cons pe_str (pa_cons pe_str (pa_cons pe_str (pa_cons pe_str (pa_cons pe_str (pa_cons pe_str (pa_cons pe_str (pa_cons pe_str (pa_cons pe_str (pa_cons pe_str (pa_cons pe_str (pa_cons pe_str (pa_cons pe_str (pa_cons pe_str (pa_cons pe_str pa_nil))))))))))))))))))))))
  (pss_one (ps_ret (pe_join pe_str (pe_op op_cat (pe_op op_cat (pe_slice sl_list (pv 2) po_none (po_some (pv 3))) (pe_lst (pa_cons (pe_call (ok_l_of T) (hr.mono (by decide)) (by rfl) T.g_l_of T.F_l_of.kp T.b_l_of .nil pass0 (pa_cons (pv 0) (pa_cons (pv 4) pa_nil))) pa_nil))) (pe_slice sl_list (pv 2) (po_some (pe_op op_add (pv 3) pe_int)) po_none)))))))), ?_⟩
    have wide : ∀ {n : Nat}, n ≤ 1000 → n ≤ sizeLine := fun h => Nat.le_trans h (by decide)
    obtain ⟨n0, _, _⟩ := hy.split (y := " ") rfl (by decide +kernel)
    refine ⟨_, rfl, ⟨_, rfl⟩, y, " ", rfl, rfl, rfl, wide (by have := hy.len; omega), fun W hW => ?_⟩
    obtain ⟨ws, hws⟩ : ∃ ws, Txt.split y " " = ws := ⟨_, rfl⟩
    rw [hws] at n0 hn hw ⊢
    have n1 := List.length_pos_iff.mpr n0
    have d0 := (Dr.start hP (Nat.le_refl _)).new (o := .lst (ws.map V.str)) hW
    have nWp := hP.ne hW
    have gW : (upd H W (.lst (ws.map V.str))) W = some (.lst (ws.map V.str)) := upd_same
    generalize upd H W (.lst (ws.map V.str)) = H0 at *
    refine ⟨.ref p, rfl, _, rfl, W, _, rfl, .inl (SqL.of gW), p, (((ws.map V.str).length : Nat) : Int), k + 1, rfl, d0.2, ?_, ?_, fun r H1 r0 r1 d1 => ?_⟩
    · rw [List.length_map]
      omega
    · rw [List.length_map]
      omega
    obtain ⟨a, rfl⟩ : ∃ a : Nat, r = (a : Int) := ⟨r.toNat, by omega⟩
    have d01 := d0.trans d1
    have gW1 := d1.st nWp gW
    dsimp only
    refine seq_set (SL.lst (P := Asc 8) (n := 20) ?_ (by decide) fun os ol o1 o2 o3 => ?_)
    · repeat
        first
        | refine SL.consB ?_ ?_
        | exact SE.c (by decide +kernel)
        | apply SEb.of
        | exact SL.nil
        | decide +kernel
    have s2 := same_new (o := .lst (os.map V.str)) o3
    have nop := d01.2.ne o3
    have go : (upd H1 ol (.lst (os.map V.str))) ol = some (.lst (os.map V.str)) := upd_same
    have gW2 := s2 _ _ gW1
    have d2 := d01.sm9 s2
    generalize upd H1 ol (.lst (os.map V.str)) = H2 at *
    obtain ⟨c1, e1, m1, l1⟩ := cut_strs ws none (some (a : Int))
    obtain ⟨c2, e2, m2, l2⟩ := cut_strs ws (some ((a : Int) + 1)) none
    refine ⟨⟨_, rfl⟩, ?_⟩
    refine ⟨_, rfl, _, rfl, _, rfl, W, _, rfl, SqL.of gW2, fun p1 hp1 => ?_⟩
    rw [e1]
    have s3 := same_new (o := .lst (c1.map V.str)) hp1
    have np1 := d2.2.ne hp1
    have g1 : (upd H2 p1 (.lst (c1.map V.str))) p1 = some (.lst (c1.map V.str)) := upd_same
    have d3 := d2.sm9 s3
    have go3 := s3 _ _ go
    have gW3 := s3 _ _ gW2
    generalize upd H2 p1 (.lst (c1.map V.str)) = H3 at *
    refine ⟨.ref p, rfl, .ref ol, rfl, p, ol, os.map V.str, k, rfl, d3.2, SqL.of go3, nop, by rw [List.length_map, o1]; decide, by rw [List.length_map, o1]; decide, fun i x H4 hx d4 => ?_⟩
    obtain ⟨o, ho, rfl⟩ := str_at hx
    have ao := o2 o (List.mem_of_getElem? ho)
    have d34 := d3.trans d4
    refine ⟨wide (show 1 ≤ 1000 by decide), fun p2 hp2 => ?_⟩
    have s5 := same_new (o := .lst [.str o]) hp2
    refine ⟨p1, p2, _, _, rfl, rfl, s5 _ _ (d4.st np1 g1), upd_same, ?_, fun p3 hp3 => ?_⟩
    · rw [List.length_map]
      exact wide (show c1.length + 1 ≤ 1000 by omega)
    have s6 := s5.trans (same_new (o := .lst (c1.map V.str ++ [.str o])) hp3)
    have g3 : (upd (upd H4 p2 (.lst [.str o])) p3 (.lst (c1.map V.str ++ [.str o]))) p3 = some (.lst (c1.map V.str ++ [.str o])) := upd_same
    have gW6 := s6 _ _ (d4.st nWp gW3)
    have d6 := d34.sm9 s6
    generalize upd (upd H4 p2 (.lst [.str o])) p3 (.lst (c1.map V.str ++ [.str o])) = H6 at *
    refine ⟨_, rfl, _, rfl, _, _, rfl, rfl, _, rfl, W, _, rfl, SqL.of gW6, fun p4 hp4 => ?_⟩
    rw [e2]
    have s7 := same_new (o := .lst (c2.map V.str)) hp4
    refine ⟨p3, p4, _, _, rfl, rfl, s7 _ _ g3, upd_same, ?_, fun p5 hp5 => ?_⟩
    · rw [List.length_append, List.length_map, List.length_map]
      exact wide (show c1.length + 1 + c2.length ≤ 1000 by omega)
    have s8 := s7.trans (same_new (o := .lst (c1.map V.str ++ [.str o] ++ c2.map V.str)) hp5)
    have eS : c1.map V.str ++ [.str o] ++ c2.map V.str = (c1 ++ [o] ++ c2).map V.str := by
      rw [List.map_append, List.map_append]
      rfl
    have al : ∀ z ∈ c1 ++ [o] ++ c2, Asc 8 z := fun z hz => by
      rcases List.mem_append.mp hz with hz | hz
      · rcases List.mem_append.mp hz with hz | hz
        · exact hw z (m1 z hz)
        · rw [List.mem_singleton.mp hz]
          exact ao
      · exact hw z (m2 z hz)
    have ln : (c1 ++ [o] ++ c2).length ≤ 23 := by
      rw [List.length_append, List.length_append]
      show c1.length + 1 + c2.length ≤ 23
      omega
    refine ⟨_, p5, c1 ++ [o] ++ c2, rfl, rfl, .inl (SqL.of ?_), join_ok (c := 8) (n := 23) (fun z hz => (al z hz).len) ln rfl (by decide), q _ _ (d6.sm9 s8) (Asc.join rfl (by decide +kernel) al ln)⟩
    rw [upd_same, eS]
end
end OG
set_option Elab.async false
set_option linter.all false
set_option maxRecDepth 100000
set_option maxHeartbeats 8000000
namespace OG
open PySem PySem.Spec PyProof.Rows L2
section
variable {P : Program} {w : World} {K : PySem.W.Frag} {mg : Str → Option Value} {base : Heap}
def spMore (K : PySem.W.Frag) : Sp := fun vs H Q _ => ∃ (p lp : Addr) (k n : Nat) (xs : List V) (lns : List Ln), vs = [.ref p, .ref lp] ∧ Pot (k + 10) H p ∧ H lp = some (.lst xs) ∧ lp ≠ p ∧ TdAll K H xs (lns.map Ln.data) ∧ L9 lns n ∧ 1 ≤ n ∧ n ≤ 8 ∧ ∀ (z : Str) (H' : Hp), Dr p k H H' → Asc 3000 z → Q (.str z) H'
theorem ok_l_more_text (T : Txt K mg) : FnOk P w K mg base CX0 5 T.f_l_more_text T.fd_l_more_text ["pot", "lines"] (spMore K) := by
  refine T.F_l_more_text.ok sc_l_more_text (fun vs H Q E h => ?_) (fun cdv A outer s H vs Q E hr h => ?_)
  · obtain ⟨p, lp, k, n, xs, lns, rfl, _⟩ := h
    rfl
  · obtain ⟨p, lp, k, n, xs, lns, rfl, hP, gl, nlp, td, L, n1, n8, q⟩ := h
    refine ⟨_, (pss_cons (ps_set (i := 2) sc_l_more_text.nd rfl (Or.inl rfl) (pe_call (ok_l_script_gates T) (hr.mono (by decide)) (by rfl) T.g_l_script_gates T.F_l_script_gates.kp T.b_l_script_gates .nil pass0 (pa_cons (pv 1) pa_nil)))
  (pss_cons (ps_set (i := 3) sc_l_more_text.nd rfl (Or.inl rfl) (pe_op op_add pe_int (pe_call (ok_l_take T) (hr.mono (by decide)) (by rfl) T.g_l_take T.F_l_take.kp T.b_l_take .nil pass0 (pa_cons (pv 0) (pa_cons (pe_callB call_len_seq (by rfl) T.n_len PySem.boot_len (pa_cons (pv 1) pa_nil)) pa_nil)))))
  (pss_cons (ps_set (i := 4) sc_l_more_text.nd rfl (Or.inl rfl) (pe_ix ix_tup (pe_ix ix_list (pv 1) (pe_call (ok_l_take T) (hr.mono (by decide)) (by rfl) T.g_l_take T.F_l_take.kp T.b_l_take .nil pass0 (pa_cons (pv 0) (pa_cons (pv 3) pa_nil))) (fun _ _ => rfl)) pe_int (fun _ _ => rfl)))
  (pss_cons (ps_set (i := 5) sc_l_more_text.nd rfl (Or.inl rfl) (pe_call (ok_l_of T) (hr.mono (by decide)) (by rfl) T.g_l_of T.F_l_of.kp T.b_l_of .nil pass0 (pa_cons (pv 0) (pa_cons (pe_lock (pe_lc (own := [("name", 10)]) (g := gName 10) (by rfl) sc_l_more_text.nd (pi_keys (pv 2)) (blkOk_by (own := [("name", 10)]) (by rfl)) (fun _ _ _ _ _ => (pg_name (i := 10) sc_l_more_text.nd rfl (Or.inl rfl))) (fun _ _ _ _ _ => pts_nil) (fun _ _ _ _ _ => (pv 10)))) pa_nil))))
  (pss_cons (ps_set (i := 6) sc_l_more_text.nd rfl (Or.inl rfl) (pe_call (ok_l_of T) (hr.mono (by decide)) (by rfl) T.g_l_of T.F_l_of.kp T.b_l_of .nil pass0 (pa_cons (pv 0) (pa_cons (pe_lst (pa_cons pe_str (pa_cons pe_str (pa_cons pe_str (pa_cons pe_str (pa_cons (pv 4) (pa_cons (pv 5) (pa_cons (pe_call (ok_l_of T) (hr.mono (by decide)) (by rfl) T.g_l_of T.F_l_of.kp T.b_l_of .nil pass0 (pa_cons (pv 0) (pa_cons (pe_call0 (ok_l_heads T) (hr.mono (by decide)) (by rfl) T.g_l_heads T.F_l_heads.kp T.b_l_heads .nil pass0) pa_nil))) pa_nil)))))))) pa_nil))))
  (pss_cons (ps_set (i := 7) sc_l_more_text.nd rfl (Or.inl rfl) (pe_op op_add_str (pe_op op_add_str (pv 6) (pe_call (ok_l_of T) (hr.mono (by decide)) (by rfl) T.g_l_of T.F_l_of.kp T.b_l_of .nil pass0 (pa_cons (pv 0) (pa_cons (pe_lst (pa_cons pe_str (pa_cons pe_str (pa_cons pe_str (pa_cons pe_str (pa_cons pe_str (pa_cons pe_str (pa_cons pe_str (pa_cons pe_str pa_nil))))))))) pa_nil)))) (pe_call (ok_l_of T) (hr.mono (by decide)) (by rfl) T.g_l_of T.F_l_of.kp T.b_l_of .nil pass0 (pa_cons (pv 0) (pa_cons (pe_call (ok_l_rests T) (hr.mono (by decide)) (by rfl) T.g_l_rests T.F_l_rests.kp T.b_l_rests .nil pass0 (pa_cons (pv 4) (pa_cons (pe_dget (hu_of hr) (pv 2) (pv 4) (fun _ _ => rfl)) pa_nil))) pa_nil)))))
  (pss_cons (ps_setLc (i := 8) (own := [("line", 9)]) (g := gName 9) (by rfl) sc_l_more_text.nd rfl rfl (sw_true rfl rfl rfl (by decide +kernel)) (pi_list (pv 1)) (blkOk_by (own := [("line", 9)]) (by rfl)) (fun _ _ _ _ _ => (pg_name (i := 9) sc_l_more_text.nd rfl (Or.inl rfl))) (fun _ _ _ _ _ => pts_nil) (fun _ _ _ _ _ => (pe_call (ok_l_script_line_text T) (hr.mono (by decide)) (by rfl) T.g_l_script_line_text T.F_l_script_line_text.kp T.b_l_script_line_text .nil pass0 (pa_cons (pv 9) pa_nil))))
  (pss_one (ps_ret (pe_join pe_str (pe_op op_cat (pe_op op_cat (pe_op op_cat (pe_lst (pa_cons pe_str pa_nil)) (pe_slice sl_list (pv 8) po_none (po_some (pv 3)))) (pe_lst (pa_cons (pv 7) pa_nil))) (pe_slice sl_list (pv 8) (po_some (pv 3)) po_none)))))))))))), ?_⟩
    have wide : ∀ {n : Nat}, n ≤ 1000 → n ≤ sizeLine := fun h => Nat.le_trans h (by decide)
    have wide2 : ∀ {n : Nat}, n ≤ 10000 → n ≤ sizeLine := fun h => Nat.le_trans h (by decide)
    have ll := L.len
    have xl : xs.length = lns.length := td.lnLen
    have ko : KnOk (knOf [] lns) := KnOk.of KnOk.nil L.ok
    have fit : ∀ l ∈ lns, LnFit l := fun l hl => by
      obtain ⟨i, hi⟩ := List.mem_iff_getElem?.mp hl
      exact ⟨(L.nice l hl).nm.len, (L.ok.at hi).fm.fit (KnOk.of KnOk.nil (L.ok.take i)) (L.nice l hl).fm⟩
    refine ⟨_, rfl, lp, xs, lns, rfl, SqL.of gl, td, L.ok, by omega, fun kd kvs H1 s1 hkd gk kn => ?_⟩
    have kl : kvs.length = n := by
      rw [kn.len, knOf_len, ll]
      exact Nat.zero_add n
    have gl1 := s1 _ _ gl
    have td1 := td.mv (Same.tk s1)
    have d1 : Dr p (k + 10) H H1 := ⟨Same.kp s1, hP.same s1⟩
    have nkp : kd ≠ p := hP.ne hkd
    refine ⟨_, rfl, _, rfl, lp, _, rfl, .inl (SqL.of gl1), p, ((xs.length : Nat) : Int), k + 9, rfl, d1.2, by omega, by omega, fun r H2 r0 r1 d2 => ?_⟩
    obtain ⟨a, rfl⟩ : ∃ a : Nat, r = (a : Int) := ⟨r.toNat, by omega⟩
    refine ⟨_, _, rfl, rfl, ?_⟩
    have d12 := d1.trans d2
    have gl2 := d2.st nlp gl1
    refine ⟨_, rfl, _, rfl, _, rfl, p, 1 + (a : Int), k + 8, rfl, d2.2, by omega, by omega, fun r3 H3 r30 r31 d3 => ?_⟩
    obtain ⟨b, rfl⟩ : ∃ b : Nat, r3 = (b : Int) := ⟨r3.toNat, by omega⟩
    have gl3 := d3.st nlp gl2
    have d13 := d12.trans d3
    have td3 := td.mv (d13.tk hP)
    have hb : b < xs.length := by omega
    have hv : xs[b]? = some (xs[b]'hb) := List.getElem?_eq_getElem hb
    obtain ⟨l, hl, hld⟩ := td3.lnAt hv
    obtain ⟨la, lpp, eV, hla, _⟩ := hld.ln
    rw [eV] at hv
    have nice := L.nice l (List.mem_of_getElem? hl)
    refine ⟨lp, xs, _, .ref la, rfl, rfl, SqL.of gl3, atI_nat hv, la, _, 0, .str l.nm, rfl, rfl, hla, rfl, ?_⟩
    have an : Asc 8 l.nm := ⟨nice.nm.len, nice.nm.hi⟩
    have gL := glk_knOf L.ok hl
    have d23 := d2.trans d3
    have gk3 := d23.st nkp gk
    have kn3 := kn.mv (d23.tk d1.2)
    refine ⟨_, rfl, kd, .dK kvs, gk3, trivial, fun od => ?_⟩
    have f0 : (upd H3 kd (.frz od (.dK kvs))) kd = some (.frz od (.dK kvs)) := upd_same
    have o0 : ∀ b o, b ≠ kd → H3 b = some o → (upd H3 kd (.frz od (.dK kvs))) b = some o := fun b o n e => by
      rw [upd_ne n]
      exact e
    have o1 : ∀ b, (upd H3 kd (.frz od (.dK kvs))) b = none → H3 b = none := fun b e => by
      by_cases n : b = kd
      · rw [n, upd_same] at e
        cases e
      · rw [upd_ne n] at e
        exact e
    generalize upd H3 kd (.frz od (.dK kvs)) = HL at *
    refine ⟨_, rfl, kd, od, rfl, .inl ⟨kvs, f0, fun D hD => ?_⟩⟩
    have nDk : D ≠ kd := fun e => by
      rw [e, f0] at hD
      cases hD
    obtain ⟨ns, hns⟩ : ∃ ns, ns = (knOf [] lns).map (·.1) := ⟨_, rfl⟩
    have ek := kn.names
    rw [← hns] at ek
    have lns' : ns.length = n := by
      have := congrArg List.length ek
      rw [List.length_map, List.length_map, kl] at this
      exact this.symm
    refine lc_it walk_keys (fun i H' => Same HL H' ∧ H' D = some (.lst ((ns.take i).map V.str))) ⟨same_new hD, upd_same⟩ (fun i H' _ ⟨s, _⟩ => s _ _ f0) ?_ ?_
    · rintro i v H' H'' hi ⟨s, g⟩ ⟨rfl, kk, vv, hk, rfl⟩
      have hz : ns[i]? = some (match kk with | .inr z => z | .inl _ => "") ∧ kV kk = .str (match kk with | .inr z => z | .inl _ => "") := by
        have e2 := congrArg (fun l => l[i]?) ek
        rw [List.getElem?_map, List.getElem?_map, hk] at e2
        cases en : ns[i]? with
        | none =>
          rw [en] at e2
          cases e2
        | some z =>
          rw [en] at e2
          have e2 : kV kk = V.str z := Option.some.inj e2
          cases kk with
          | inl _ => cases e2
          | inr z' =>
            cases e2
            exact ⟨rfl, rfl⟩
      refine ⟨rfl, ?_⟩
      refine ⟨_, rfl, _, g, ?_, fun b o e => ?_, ?_⟩
      · rw [List.length_map, List.length_take]
        exact Nat.lt_of_le_of_lt (show min i ns.length ≤ 1000 by omega) (by decide)
      · rw [upd_ne (ne_of_none e hD)]
        exact s _ _ e
      · rw [upd_same, take_more hz.1, List.map_append, hz.2]
        rfl
    rintro H5 ⟨s5, g5⟩
    refine ⟨s5 _ _ f0, ?_⟩
    rw [kl, ← lns', List.take_length] at g5
    have sU : Same H3 (upd H5 kd (.dK kvs)) := fun b o e => by
      by_cases n : b = kd
      · rw [n, gk3] at e
        rw [n, upd_same]
        exact e
      · rw [upd_ne n]
        exact s5 _ _ (o0 b o n e)
    have gD : (upd H5 kd (.dK kvs)) D = some (.lst (ns.map V.str)) := by
      rw [upd_ne nDk]
      exact g5
    have nDp : D ≠ p := d13.2.ne (o1 _ hD)
    generalize upd H5 kd (.dK kvs) = H6 at *
    have d16 := d13.sm9 sU
    have d36 : Dr p (k + 8) H3 H6 := ⟨Same.kp sU, d16.2⟩
    refine ⟨p, D, ns.map V.str, k + 7, rfl, d16.2, SqL.of gD, nDp, by rw [List.length_map]; omega, by rw [List.length_map]; omega, fun i x H7 hx d7 => ?_⟩
    obtain ⟨ot, hot, rfl⟩ := str_at hx
    have aot : Asc 8 ot := by
      have m : ot ∈ (knOf [] lns).map (·.1) := hns ▸ List.mem_of_getElem? hot
      have := L.names ot m
      exact ⟨this.len, this.hi⟩
    have d17 := d16.trans d7
    refine ⟨_, rfl, _, rfl, _, rfl, _, rfl, ⟨rfl, fun hl hs H8 s8 nh gh lh ah => ?_⟩⟩
    have d18 := d17.sm9 s8
    refine ⟨p, hl, hs.map V.str, k + 6, rfl, d18.2, SqL.of gh, d17.2.ne nh, by rw [List.length_map, lh]; decide, by rw [List.length_map, lh]; decide, fun i x H9 hx d9 => ?_⟩
    obtain ⟨h3, hh3, rfl⟩ := str_at hx
    have ah3 := ah h3 (List.mem_of_getElem? hh3)
    have d19 := d18.trans d9
    refine ⟨wide (show 7 ≤ 1000 by decide), fun hl2 nh2 => ?_⟩
    have s10 := same_new (o := .lst [.str "zz", .str "zz", .str "zz", .str "zz", .str l.nm, .str ot, .str h3]) nh2
    have eh : ([.str "zz", .str "zz", .str "zz", .str "zz", .str l.nm, .str ot, .str h3] : List V) = (["zz", "zz", "zz", "zz", l.nm, ot, h3] : List Str).map V.str := rfl
    have d110 := d19.sm9 s10
    have ghl : (upd H9 hl2 (.lst [.str "zz", .str "zz", .str "zz", .str "zz", .str l.nm, .str ot, .str h3])) hl2 = some (.lst ((["zz", "zz", "zz", "zz", l.nm, ot, h3] : List Str).map V.str)) := upd_same
    generalize upd H9 hl2 (.lst [.str "zz", .str "zz", .str "zz", .str "zz", .str l.nm, .str ot, .str h3]) = H10 at *
    refine ⟨p, hl2, (["zz", "zz", "zz", "zz", l.nm, ot, h3] : List Str).map V.str, k + 5, rfl, d110.2, SqL.of ghl, d19.2.ne nh2, by show 0 < 7; decide, by show 7 < 100000; decide, fun i x H11 hx d11 => ?_⟩
    obtain ⟨hd, hhd, rfl⟩ := str_at hx
    have azz : Asc 20 ("zz" : Str) := (asc_c (by decide +kernel)).mono (by decide +kernel)
    have ahd : Asc 20 hd := by
      have m := List.mem_of_getElem? hhd
      simp only [List.mem_cons, List.mem_nil_iff, or_false] at m
      rcases m with rfl | rfl | rfl | rfl | rfl | rfl | rfl
      · exact azz
      · exact azz
      · exact azz
      · exact azz
      · exact an.mono (by decide)
      · exact aot.mono (by decide)
      · exact ah3
    have d111 := d110.trans d11
    refine ⟨_, rfl, _, rfl, wide (show 8 ≤ 1000 by decide), fun sl nsl => ?_⟩
    have es : ([.str " = ", .str " = ", .str " = ", .str " = ", .str " = ", .str "=", .str " =", .str " == "] : List V) = ([" = ", " = ", " = ", " = ", " = ", "=", " =", " == "] : List Str).map V.str := rfl
    have s12 := same_new (o := .lst [.str " = ", .str " = ", .str " = ", .str " = ", .str " = ", .str "=", .str " =", .str " == "]) nsl
    have gsl : (upd H11 sl (.lst [.str " = ", .str " = ", .str " = ", .str " = ", .str " = ", .str "=", .str " =", .str " == "])) sl = some (.lst (([" = ", " = ", " = ", " = ", " = ", "=", " =", " == "] : List Str).map V.str)) := upd_same
    have d112 := d111.sm9 s12
    generalize upd H11 sl (.lst [.str " = ", .str " = ", .str " = ", .str " = ", .str " = ", .str "=", .str " =", .str " == "]) = H12 at *
    refine ⟨p, sl, ([" = ", " = ", " = ", " = ", " = ", "=", " =", " == "] : List Str).map V.str, k + 4, rfl, d112.2, SqL.of gsl, d111.2.ne nsl, by show 0 < 8; decide, by show 8 < 100000; decide, fun i x H13 hx d13' => ?_⟩
    obtain ⟨sp, hsp, rfl⟩ := str_at hx
    have asp : Asc 4 sp := by
      have m := List.mem_of_getElem? hsp
      simp only [List.mem_cons, List.mem_nil_iff, or_false] at m
      rcases m with rfl | rfl | rfl | rfl | rfl | rfl | rfl | rfl <;> exact (asc_c (by decide +kernel)).mono (by decide +kernel)
    have d113 := d112.trans d13'
    have a1 := ahd.app asp
    refine ⟨hd, sp, rfl, rfl, wide (by have := ahd.len; have := asp.len; omega), ?_⟩
    have dk : Dr p (k + 4) H1 H13 := by
      have e := d23.trans (d36.trans (d7.trans ⟨(Same.kp s8).trans (d9.1.trans ((Same.kp s10).trans (d11.1.trans ((Same.kp s12).trans d13'.1)))), d13'.2⟩))
      exact e
    have gk13 := dk.st nkp gk
    have kn13 := kn.mv (dk.tk d1.2)
    obtain ⟨gv, gv1, gv2⟩ := kn13.get gL
    obtain ⟨ga, rfl, gv3⟩ := gv2.gs
    refine ⟨_, rfl, _, rfl, _, rfl, _, rfl, kd, .ref ga, rfl, .inl ⟨kvs, .inr l.nm, .inl gk13, rfl, gv1.symm⟩, l.nm, ga, _, rfl, an, gv3, ko.at gL, fun rl zs H14 s14 nrl grl lrl arl => ?_⟩
    have d114 := d113.sm9 s14
    refine ⟨p, rl, zs.map V.str, k + 3, rfl, d114.2, SqL.of grl, d113.2.ne nrl, by rw [List.length_map]; omega, by rw [List.length_map]; omega, fun i x H15 hx d15 => ?_⟩
    obtain ⟨rest, hrest, rfl⟩ := str_at hx
    have ar := arl rest (List.mem_of_getElem? hrest)
    have a2 := a1.app ar
    have d115 := d114.trans d15
    refine ⟨_, rest, rfl, rfl, wide2 (by have := a1.len; have := ar.len; omega), ?_⟩
    obtain ⟨row, hrow⟩ : ∃ row, row = hd ++ sp ++ rest := ⟨_, rfl⟩
    rw [← hrow] at a2 ⊢
    have gl15 := d115.st nlp gl
    have td15 := td.mv (d115.tk hP)
    refine ⟨_, rfl, lp, rfl, ⟨_, SqL.of gl15⟩, fun R hR => ?_⟩
    refine lc_mapL' (K := K) (a := lp) (xs := xs) (lns.map lineT) (by rw [List.length_map]; exact xl.symm) (by omega) hR (SqL.of gl15) (fun _ => rfl) (fun x H' Q k => k) (fun i x y H' Q hx hy s k => ?_) (fun H16 s16 gR => ?_)
    · obtain ⟨l2, hl2, hd2⟩ := td15.lnAt hx
      rw [List.getElem?_map, hl2] at hy
      cases Option.some.inj hy
      obtain ⟨a2, p2, rfl, ha2, hp2⟩ := hd2.ln
      exact ⟨_, rfl, a2, l2, rfl, hd2.mv (Same.tk s), fit l2 (List.mem_of_getElem? hl2), fun H2 s2 => k _ s2⟩
    have d116 := d115.sm9 s16
    have rows_asc : ∀ z ∈ lns.map lineT, Asc 99 z := fun z hz => by
      obtain ⟨l2, hl2, rfl⟩ := List.mem_map.mp hz
      exact lineT_asc (fit l2 hl2) (L.nice l2 hl2)
    obtain ⟨c1, e1, m1, l1⟩ := cut_strs (lns.map lineT) none (some (1 + (a : Int)))
    obtain ⟨c2, e2, m2, l2⟩ := cut_strs (lns.map lineT) (some (1 + (a : Int))) none
    rw [List.length_map, ll] at l1 l2
    refine ⟨⟨_, rfl⟩, wide (show 1 ≤ 1000 by decide), fun q1 nq1 => ?_⟩
    have t1 := same_new (o := .lst [.str "script"]) nq1
    refine ⟨_, rfl, _, rfl, _, rfl, R, _, rfl, SqL.of (t1 _ _ gR), fun q2 nq2 => ?_⟩
    rw [e1]
    have t2 := t1.trans (same_new (o := .lst (c1.map V.str)) nq2)
    refine ⟨q1, q2, _, _, rfl, rfl, same_new nq2 _ _ upd_same, upd_same, wide (by rw [List.length_map]; show 1 + c1.length ≤ 1000; omega), fun q3 nq3 => ?_⟩
    have t3 := t2.trans (same_new (o := .lst ([.str "script"] ++ c1.map V.str)) nq3)
    have g3 : (upd (upd (upd H16 q1 (.lst [.str "script"])) q2 (.lst (c1.map V.str))) q3 (.lst ([.str "script"] ++ c1.map V.str))) q3 = some (.lst ([.str "script"] ++ c1.map V.str)) := upd_same
    generalize upd (upd (upd H16 q1 (.lst [.str "script"])) q2 (.lst (c1.map V.str))) q3 (.lst ([.str "script"] ++ c1.map V.str)) = H17 at *
    refine ⟨_, rfl, wide (show 1 ≤ 1000 by decide), fun q4 nq4 => ?_⟩
    refine ⟨q3, q4, _, _, rfl, rfl, same_new nq4 _ _ g3, upd_same, wide (by rw [List.length_append, List.length_map]; show 1 + c1.length + 1 ≤ 1000; omega), fun q5 nq5 => ?_⟩
    have t5 := (t3.trans (same_new (o := .lst [.str row]) nq4)).trans (same_new (o := .lst ([.str "script"] ++ c1.map V.str ++ [.str row])) nq5)
    have g5' : (upd (upd H17 q4 (.lst [.str row])) q5 (.lst ([.str "script"] ++ c1.map V.str ++ [.str row]))) q5 = some (.lst ([.str "script"] ++ c1.map V.str ++ [.str row])) := upd_same
    generalize upd (upd H17 q4 (.lst [.str row])) q5 (.lst ([.str "script"] ++ c1.map V.str ++ [.str row])) = H18 at *
    refine ⟨_, rfl, _, rfl, _, rfl, R, _, rfl, SqL.of (t5 _ _ gR), fun q6 nq6 => ?_⟩
    rw [e2]
    refine ⟨q5, q6, _, _, rfl, rfl, same_new nq6 _ _ g5', upd_same, wide (by rw [List.length_append, List.length_append, List.length_map, List.length_map]; show 1 + c1.length + 1 + c2.length ≤ 1000; omega), fun q7 nq7 => ?_⟩
    have t7 := (t5.trans (same_new (o := .lst (c2.map V.str)) nq6)).trans (same_new (o := .lst ([.str "script"] ++ c1.map V.str ++ [.str row] ++ c2.map V.str)) nq7)
    have eS : ([.str "script"] ++ c1.map V.str ++ [.str row] ++ c2.map V.str : List V) = ([("script" : Str)] ++ c1 ++ [row] ++ c2).map V.str := by
      rw [List.map_append, List.map_append, List.map_append]
      rfl
    have as1 : AscS 7 [("script" : Str)] := ⟨by decide +kernel, fun z hz => by
      rw [List.mem_singleton.mp hz]
      exact (asc_c (by decide +kernel)).lo⟩
    have as2 : AscS 800 c1 := AscS.of (n := 99) (m := 8) (fun z hz => rows_asc z (m1 z hz)) (by omega)
    have as3 : AscS 1125 [row] := ⟨by
      show row.length + 1 + 0 ≤ 1125
      have := a2.len
      omega, fun z hz => by
      rw [List.mem_singleton.mp hz]
      exact a2.lo⟩
    have as4 : AscS 800 c2 := AscS.of (n := 99) (m := 8) (fun z hz => rows_asc z (m2 z hz)) (by omega)
    have as := ((as1.app as2).app as3).app as4
    refine ⟨_, q7, [("script" : Str)] ++ c1 ++ [row] ++ c2, rfl, rfl, .inl (SqL.of ?_), as.ok rfl (by decide), q _ _ ((d116.sm9 t7).mono (by omega)) ((as.join rfl (by decide +kernel)).mono (by decide))⟩
    rw [upd_same, eS]
end
end OG
set_option Elab.async false
set_option linter.all false
set_option maxRecDepth 100000
set_option maxHeartbeats 8000000
namespace OG
open PySem PySem.Spec PyProof.Rows L2
section
variable {P : Program} {w : World} {K : PySem.W.Frag} {mg : Str → Option Value} {base : Heap}
def spBText : Sp := fun vs H Q _ => ∃ (p : Addr) (k : Nat) (z : Str), vs = [.ref p, .str z] ∧ Pot (k + 6) H p ∧ Few z ∧ ∀ (v : V) (H' : Hp), Dr p k H H' → WV p H' v → Q v H'
theorem ok_l_bent_text (T : Txt K mg) : FnOk P w K mg base CX0 4 T.f_l_bent_text T.fd_l_bent_text ["pot", "text"] (spBText) := by
  refine T.F_l_bent_text.ok sc_l_bent_text (fun vs H Q E h => ?_) (fun cdv A outer s H vs Q E hr h => ?_)
  · obtain ⟨p, k, z, rfl, _⟩ := h
    rfl
  · obtain ⟨p, k, z, rfl, hP, F, q⟩ := h
    refine ⟨_, (pss_cons (ps_par (i := 2) (j := 3) (by rfl) sc_l_bent_text.nd rfl rfl (by decide) rfl rfl (pa_cons (pe_split (pv 1) pe_str) (pa_cons (pe_call (ok_l_take T) (hr.mono (by decide)) (by rfl) T.g_l_take T.F_l_take.kp T.b_l_take .nil pass0 (pa_cons (pv 0) (pa_cons pe_int pa_nil))) pa_nil)) (by rfl))
  (pss_cons (ps_set (i := 4) sc_l_bent_text.nd rfl (Or.inr rfl) (pe_call (ok_l_take T) (hr.mono (by decide)) (by rfl) T.g_l_take T.F_l_take.kp T.b_l_take .nil pass0 (pa_cons (pv 0) (pa_cons (pe_callB call_len_seq (by rfl) T.n_len PySem.boot_len (pa_cons (pv 2) pa_nil)) pa_nil))))
  (pss_cons (ps_set (i := 5) sc_l_bent_text.nd rfl (Or.inr rfl) (pe_op op_mod (pe_op op_add (pv 4) pe_int) (pe_callB call_len_seq (by rfl) T.n_len PySem.boot_len (pa_cons (pv 2) pa_nil))))
  (C8.pss_cut (ps_if (pt_cmpR op_eq (pv 3) pe_int (nomark _)) (pss_one (ps_set (i := 2) sc_l_bent_text.nd rfl (Or.inl rfl) (pe_op op_cat (pe_slice sl_list (pv 2) po_none (po_some (pv 4))) (pe_slice sl_list (pv 2) (po_some (pe_op op_add (pv 4) pe_int)) po_none)))) (pss_one (ps_if (pt_cmpR op_eq (pv 3) pe_int (nomark _)) (pss_one (ps_set (i := 2) sc_l_bent_text.nd rfl (Or.inl rfl) (pe_op op_cat (pe_op op_cat (pe_slice sl_list (pv 2) po_none (po_some (pv 4))) (pe_slice sl_list (pv 2) (po_some (pv 4)) (po_some (pe_op op_add (pv 4) pe_int)))) (pe_slice sl_list (pv 2) (po_some (pv 4)) po_none)))) (pss_one (ps_if (pt_cmpR op_lt (pv 3) pe_int (nomark _)) (pss_one (ps_set (i := 2) sc_l_bent_text.nd rfl (Or.inl rfl) (pe_op op_cat (pe_op op_cat (pe_slice sl_list (pv 2) po_none (po_some (pv 4))) (pe_lst (pa_cons (pe_call (ok_l_bent_line T) (hr.mono (by decide)) (by rfl) T.g_l_bent_line T.F_l_bent_line.kp T.b_l_bent_line .nil pass0 (pa_cons (pv 0) (pa_cons (pe_ix ix_list (pv 2) (pv 4) (fun _ _ => rfl)) pa_nil))) pa_nil))) (pe_slice sl_list (pv 2) (po_some (pe_op op_add (pv 4) pe_int)) po_none)))) (pss_one (ps_if (pt_cmpR op_eq (pv 3) pe_int (nomark _)) (pss_cons (ps_asg (pe_tup (pa_cons (pe_ix ix_list (pv 2) (pv 4) (fun _ _ => rfl)) (pa_cons (pe_ix ix_list (pv 2) (pv 5) (fun _ _ => rfl)) pa_nil))) (pg_tup (by rfl) (pgs_cons (pg_name (i := 6) sc_l_bent_text.nd rfl (Or.inr rfl)) (pgs_cons (pg_name (i := 7) sc_l_bent_text.nd rfl (Or.inr rfl)) pgs_nil))))
  (pss_one (ps_setLc (i := 2) (own := [("place", 8), ("line", 9)]) (by rfl) sc_l_bent_text.nd rfl rfl (sw_true rfl rfl rfl (by decide +kernel)) (pi_enum (by rfl) T.n_enumerate (pa_cons (pv 2) pa_nil)) (blkOk_by (own := [("place", 8), ("line", 9)]) (by rfl)) (fun _ _ _ _ _ => (pg_tupK K (n := 2) (by rfl) (pgs_cons (pg_name (i := 8) sc_l_bent_text.nd rfl (Or.inl rfl)) (pgs_cons (pg_name (i := 9) sc_l_bent_text.nd rfl (Or.inl rfl)) pgs_nil)))) (fun _ _ _ _ _ => pts_nil) (fun _ _ _ _ _ => (pe_ifExp (pt_cmpR op_eq (pv 8) (pv 4) (nomark _)) (pv 7) (pe_ifExp (pt_cmpR op_eq (pv 8) (pv 5) (nomark _)) (pv 6) (pv 9))))))) (pss_one (ps_if (pt_cmpR op_eq (pv 3) pe_int (nomark _)) (pss_one (ps_set (i := 2) sc_l_bent_text.nd rfl (Or.inl rfl) (pe_slice sl_list (pv 2) po_none (po_some (pe_op op_add (pv 4) pe_int))))) (pss_one (ps_if (pt_cmpR op_eq (pv 3) pe_int (nomark _)) (pss_one (ps_set (i := 2) sc_l_bent_text.nd rfl (Or.inl rfl) (pe_op op_cat (pv 2) (pe_lst (pa_cons (pe_call (ok_l_of T) (hr.mono (by decide)) (by rfl) T.g_l_of T.F_l_of.kp T.b_l_of .nil pass0 (pa_cons (pv 0) (pa_cons (pe_lst (pa_cons pe_str (pa_cons pe_str (pa_cons pe_str (pa_cons pe_str (pa_cons pe_str pa_nil)))))) pa_nil))) pa_nil))))) (pss_one (ps_ret (pe_call (ok_l_of T) (hr.mono (by decide)) (by rfl) T.g_l_of T.F_l_of.kp T.b_l_of .nil pass0 (pa_cons (pv 0) (pa_cons (pe_lst (pa_cons (pe_lst (pa_cons (pv 1) pa_nil)) (pa_cons (pe_callTy call_tuple_of (by rfl) T.n_tuple (by decide +kernel) (pa_cons (pv 2) pa_nil)) (pa_cons pe_non (pa_cons (pe_upper (pv 1)) (pa_cons (pe_op op_add_str (pv 1) pe_str) (pa_cons (pe_op op_add_str pe_str (pv 1)) pa_nil))))))) pa_nil))))))))))))))))
  (pss_one (ps_ret (pe_join pe_str (pv 2)))))))), ?_⟩
    have wide : ∀ {n : Nat}, n ≤ 1000 → n ≤ sizeLine := fun h => Nat.le_trans h (by decide)
    have zl := F.asc.len
    refine ⟨_, rfl, ⟨_, rfl⟩, z, "\n", rfl, rfl, rfl, wide (by omega), fun L hL => ?_⟩
    obtain ⟨ls, hls⟩ : ∃ ls, Txt.split z "\n" = ls := ⟨_, rfl⟩
    have fne := F.ne
    have fn := F.n
    have fl := F.ln
    rw [hls] at fne fn fl ⊢
    have n1 := List.length_pos_iff.mpr fne
    have d0 := (Dr.start hP (Nat.le_refl _)).new (o := .lst (ls.map V.str)) hL
    have nLp := hP.ne hL
    have gL : (upd H L (.lst (ls.map V.str))) L = some (.lst (ls.map V.str)) := upd_same
    generalize upd H L (.lst (ls.map V.str)) = H0 at *
    refine ⟨_, rfl, p, 9, k + 5, rfl, d0.2, by decide, by decide, fun way H1 w0 w1 d1 => ?_⟩
    refine ⟨_, _, rfl, ?_⟩
    have d01 := d0.trans d1
    have gL1 := d1.st nLp gL
    refine ⟨_, rfl, _, rfl, L, _, rfl, .inl (SqL.of gL1), p, (((ls.map V.str).length : Nat) : Int), k + 4, rfl, d01.2, ?_, ?_, fun r H2 r0 r1 d2 => ?_⟩
    · rw [List.length_map]
      omega
    · rw [List.length_map]
      omega
    rw [List.length_map] at r1
    obtain ⟨a, rfl⟩ : ∃ a : Nat, r = (a : Int) := ⟨r.toNat, by omega⟩
    have d02 := d01.trans d2
    have gL2 := d2.st nLp gL1
    refine ⟨_, rfl, _, _, rfl, rfl, _, rfl, L, _, rfl, .inl (SqL.of gL2), _, _, rfl, rfl, by rw [List.length_map]; omega, ?_⟩
    obtain ⟨o, ho, ol⟩ : ∃ o : Nat, ((a : Int) + 1) % (((ls.map V.str).length : Nat) : Int) = (o : Int) ∧ o < ls.length := by
      rw [List.length_map]
      have h1 := Int.emod_nonneg ((a : Int) + 1) (show ((ls.length : Nat) : Int) ≠ 0 by omega)
      have h2 := Int.emod_lt_of_pos ((a : Int) + 1) (show (0 : Int) < ((ls.length : Nat) : Int) by omega)
      exact ⟨(((a : Int) + 1) % ((ls.length : Nat) : Int)).toNat, by omega, by omega⟩
    rw [show (fun (i j : Int) => V.int (i % j)) ((a : Int) + 1) (((ls.map V.str).length : Nat) : Int) = V.int (o : Int) from congrArg V.int ho]
    obtain ⟨c1, e1, m1, l1⟩ := cut_strs ls none (some (a : Int))
    obtain ⟨c2, e2, m2, l2⟩ := cut_strs ls (some ((a : Int) + 1)) none
    obtain ⟨c3, e3, m3, l3⟩ := cut_strs ls (some (a : Int)) (some ((a : Int) + 1))
    obtain ⟨c4, e4, m4, l4⟩ := cut_strs ls (some (a : Int)) none
    obtain ⟨c5, e5, m5, l5⟩ := cut_strs ls none (some ((a : Int) + 1))
    have la : ∀ {cs : List Str}, (∀ z ∈ cs, z ∈ ls) → cs.length ≤ ls.length → AscS 900 cs := fun h1 h2 => AscS.of (n := 99) (m := 9) (fun y hy => (fl y (h1 y hy)).1) (by omega)
    have lal : AscS 900 ls := la (fun _ h => h) (Nat.le_refl _)
    refine ⟨fun σ H3 => ∃ (M : Addr) (ys : List Str) (u6 u7 u8 u9 : Option V), σ = [some (.ref p), some (.str z), some (.ref M), some (.int way), some (.int (a : Int)), some (.int (o : Int)), u6, u7, u8, u9] ∧ Dr p k H H3 ∧ M ≠ p ∧ H3 M = some (.lst (ys.map V.str)) ∧ AscS 3900 ys, ?_, ?_⟩
    rotate_left
    · rintro σ H3 ⟨M, ys, u6, u7, u8, u9, rfl, d3, nM, gM, as⟩
      have aj := as.join (S := "\n") rfl (by decide +kernel)
      exact ⟨⟨_, rfl⟩, _, rfl, _, M, ys, rfl, rfl, .inl (SqL.of gM), as.ok rfl (by decide), q _ _ d3 (wv_str (aj.mono (by decide)))⟩
    refine ⟨_, rfl, rfl, _, rfl, ?_⟩
    by_cases w0' : way = 0
    · refine iteT' (by rw [w0']; rfl) ?_
      refine ⟨_, rfl, _, rfl, _, rfl, L, _, rfl, SqL.of gL2, fun p1 hp1 => ?_⟩
      rw [e1]
      have s1 := same_new (o := .lst (c1.map V.str)) hp1
      refine ⟨_, rfl, _, rfl, _, _, rfl, rfl, _, rfl, L, _, rfl, SqL.of (s1 _ _ gL2), fun p2 hp2 => ?_⟩
      rw [e2]
      have s2 := s1.trans (same_new (o := .lst (c2.map V.str)) hp2)
      refine ⟨p1, p2, _, _, rfl, rfl, same_new hp2 _ _ upd_same, upd_same, wide (by rw [List.length_map, List.length_map]; omega), fun p3 hp3 => ?_⟩
      have s3 := s2.trans (same_new (o := .lst (c1.map V.str ++ c2.map V.str)) hp3)
      refine ⟨p3, c1 ++ c2, _, _, _, _, rfl, (d02.sm9 s3).mono (by omega), (d02.2.same s2).ne hp3, by rw [upd_same, List.map_append], ((la m1 l1).app (la m2 l2)).mono (by decide)⟩
    refine iteF' (fun h => w0' (V.int.inj (of_decide_eq_true h))) ?_
    refine ⟨_, rfl, rfl, _, rfl, ?_⟩
    by_cases w1' : way = 1
    · refine iteT' (by rw [w1']; rfl) ?_
      refine ⟨_, rfl, _, rfl, _, rfl, L, _, rfl, SqL.of gL2, fun p1 hp1 => ?_⟩
      rw [e1]
      have s1 := same_new (o := .lst (c1.map V.str)) hp1
      refine ⟨_, rfl, _, rfl, _, rfl, _, rfl, _, _, rfl, rfl, _, rfl, L, _, rfl, SqL.of (s1 _ _ gL2), fun p2 hp2 => ?_⟩
      rw [e3]
      have s2 := s1.trans (same_new (o := .lst (c3.map V.str)) hp2)
      refine ⟨p1, p2, _, _, rfl, rfl, same_new hp2 _ _ upd_same, upd_same, wide (by rw [List.length_map, List.length_map]; omega), fun p3 hp3 => ?_⟩
      have s3 := s2.trans (same_new (o := .lst (c1.map V.str ++ c3.map V.str)) hp3)
      have g3 : (upd (upd (upd H2 p1 (.lst (c1.map V.str))) p2 (.lst (c3.map V.str))) p3 (.lst (c1.map V.str ++ c3.map V.str))) p3 = some (.lst (c1.map V.str ++ c3.map V.str)) := upd_same
      generalize upd (upd (upd H2 p1 (.lst (c1.map V.str))) p2 (.lst (c3.map V.str))) p3 (.lst (c1.map V.str ++ c3.map V.str)) = H3 at *
      refine ⟨_, rfl, _, rfl, _, rfl, L, _, rfl, SqL.of (s3 _ _ gL2), fun p4 hp4 => ?_⟩
      rw [e4]
      have s4 := s3.trans (same_new (o := .lst (c4.map V.str)) hp4)
      refine ⟨p3, p4, _, _, rfl, rfl, same_new hp4 _ _ g3, upd_same, wide (by rw [List.length_append, List.length_map, List.length_map, List.length_map]; omega), fun p5 hp5 => ?_⟩
      have s5 := s4.trans (same_new (o := .lst (c1.map V.str ++ c3.map V.str ++ c4.map V.str)) hp5)
      refine ⟨p5, c1 ++ c3 ++ c4, _, _, _, _, rfl, (d02.sm9 s5).mono (by omega), (d02.2.same s4).ne hp5, by rw [upd_same, List.map_append, List.map_append], (((la m1 l1).app (la m3 l3)).app (la m4 l4)).mono (by decide)⟩
    refine iteF' (fun h => w1' (V.int.inj (of_decide_eq_true h))) ?_
    refine ⟨_, rfl, _, _, rfl, rfl, _, rfl, ?_⟩
    by_cases w5 : way < 5
    · refine iteT' (decide_eq_true w5) ?_
      refine ⟨_, rfl, _, rfl, _, rfl, L, _, rfl, SqL.of gL2, fun p1 hp1 => ?_⟩
      rw [e1]
      have s1 := same_new (o := .lst (c1.map V.str)) hp1
      have np1 := d02.2.ne hp1
      have d3 := d02.sm9 s1
      have g1 : (upd H2 p1 (.lst (c1.map V.str))) p1 = some (.lst (c1.map V.str)) := upd_same
      have gL3 := s1 _ _ gL2
      generalize upd H2 p1 (.lst (c1.map V.str)) = H3 at *
      have ha : ls[a]? = some (ls[a]'(by omega)) := List.getElem?_eq_getElem (by omega)
      obtain ⟨f1, f2, f3⟩ := fl _ (List.mem_of_getElem? ha)
      refine ⟨_, rfl, _, rfl, _, rfl, L, _, (a : Int), .str (ls[a]'(by omega)), rfl, rfl, SqL.of gL3, atI_nat (by rw [List.getElem?_map, ha]; rfl), ?_⟩
      refine ⟨p, k + 2, _, rfl, d3.2, f1, f2, f3, fun y H4 d4 ay => ⟨wide (show 1 ≤ 1000 by decide), fun p2 hp2 => ?_⟩⟩
      have d34 := d3.trans d4
      have s5 := same_new (o := .lst [.str y]) hp2
      refine ⟨p1, p2, _, _, rfl, rfl, s5 _ _ (d4.st np1 g1), upd_same, wide (by rw [List.length_map]; show c1.length + 1 ≤ 1000; omega), fun p3 hp3 => ?_⟩
      have s6 := s5.trans (same_new (o := .lst (c1.map V.str ++ [.str y])) hp3)
      have g3 : (upd (upd H4 p2 (.lst [.str y])) p3 (.lst (c1.map V.str ++ [.str y]))) p3 = some (.lst (c1.map V.str ++ [.str y])) := upd_same
      have gL6 := s6 _ _ (d4.st nLp gL3)
      have d6 := d34.sm9 s6
      generalize upd (upd H4 p2 (.lst [.str y])) p3 (.lst (c1.map V.str ++ [.str y])) = H6 at *
      refine ⟨_, rfl, _, rfl, _, _, rfl, rfl, _, rfl, L, _, rfl, SqL.of gL6, fun p4 hp4 => ?_⟩
      rw [e2]
      have s7 := same_new (o := .lst (c2.map V.str)) hp4
      refine ⟨p3, p4, _, _, rfl, rfl, s7 _ _ g3, upd_same, wide (by rw [List.length_append, List.length_map, List.length_map]; show c1.length + 1 + c2.length ≤ 1000; omega), fun p5 hp5 => ?_⟩
      have s8 := s7.trans (same_new (o := .lst (c1.map V.str ++ [.str y] ++ c2.map V.str)) hp5)
      have ay' : AscS 208 [y] := ⟨by
        show y.length + 1 + 0 ≤ 208
        have := ay.len
        omega, fun z hz => by
        rw [List.mem_singleton.mp hz]
        exact ay.lo⟩
      refine ⟨p5, c1 ++ [y] ++ c2, _, _, _, _, rfl, (d6.sm9 s8).mono (by omega), (d6.2.same s7).ne hp5, ?_, (((la m1 l1).app ay').app (la m2 l2)).mono (by decide)⟩
      rw [upd_same, List.map_append, List.map_append]
      rfl
    refine iteF' (fun h => w5 (of_decide_eq_true h)) ?_
    refine ⟨_, rfl, rfl, _, rfl, ?_⟩
    by_cases w5' : way = 5
    · refine iteT' (by rw [w5']; rfl) ?_
      have ha : ls[a]? = some (ls[a]'(by omega)) := List.getElem?_eq_getElem (by omega)
      have hoo : ls[o]? = some (ls[o]'ol) := List.getElem?_eq_getElem ol
      obtain ⟨fa, efa⟩ : ∃ z, z = ls[a]'(by omega) := ⟨_, rfl⟩
      obtain ⟨fo, efo⟩ : ∃ z, z = ls[o]'ol := ⟨_, rfl⟩
      rw [← efa] at ha
      rw [← efo] at hoo
      refine ⟨_, rfl, _, rfl, L, _, (a : Int), .str fa, rfl, rfl, SqL.of gL2, atI_nat (by rw [List.getElem?_map, ha]; rfl), _, rfl, _, rfl, L, _, (o : Int), .str fo, rfl, rfl, SqL.of gL2, atI_nat (by rw [List.getElem?_map, hoo]; rfl), wide (show 2 ≤ 1000 by decide), fun t ht => ?_⟩
      have s1 := same_new (o := .tup [.str fa, .str fo]) ht
      refine ⟨t, _, rfl, SqT.of upd_same, rfl, _, _, rfl, _, _, rfl, rfl, ?_⟩
      have gL3 := s1 _ _ gL2
      have d3 := d02.sm9 s1
      generalize upd H2 t (.tup [.str fa, .str fo]) = H3 at *
      refine ⟨_, rfl, L, _, rfl, SqL.of gL3, fun D hD => ?_⟩
      refine lc_it (walk_enum (xs := ls.map V.str)) (fun i H' => Same H3 H' ∧ ∃ ys : List Str, H' D = some (.lst (ys.map V.str)) ∧ ys.length = i ∧ ∀ y ∈ ys, y ∈ ls) ⟨same_new hD, [], upd_same, rfl, fun y h => by cases h⟩ (fun i H' _ ⟨s, _⟩ => SqL.of (s _ _ gL3)) ?_ ?_
      · rintro i v H' H'' hi ⟨s, ys, g, hl, hm⟩ hy
        obtain ⟨T, x, y, rfl, hT, rfl, hx, hy⟩ := hy
        cases Option.some.inj hx
        obtain ⟨z', hz', rfl⟩ := str_at hy
        have sT := same_new (o := .tup [.int (i : Nat), .str z']) hT
        have fin : ∀ (w : Str), w ∈ ls → ∃ acc, (upd H' T (.tup [.int (i : Nat), .str z'])) D = some (.lst acc) ∧ acc.length < sizeLine ∧ Same H3 (upd (upd H' T (.tup [.int (i : Nat), .str z'])) D (.lst (acc ++ [.str w]))) ∧ ∃ ys : List Str, (upd (upd H' T (.tup [.int (i : Nat), .str z'])) D (.lst (acc ++ [.str w]))) D = some (.lst (ys.map V.str)) ∧ ys.length = i + 1 ∧ ∀ y ∈ ys, y ∈ ls := fun w hw => by
          refine ⟨_, sT _ _ g, ?_, fun b u e => ?_, ys ++ [w], ?_, by rw [List.length_append, hl]; rfl, fun y hy => ?_⟩
          · rw [List.length_map, hl]
            rw [List.length_map] at hi
            exact Nat.lt_of_le_of_lt (show i ≤ 1000 by omega) (by decide)
          · rw [upd_ne (ne_of_none e hD)]
            exact sT _ _ (s _ _ e)
          · rw [upd_same, List.map_append]
            rfl
          · rcases List.mem_append.mp hy with hy | hy
            · exact hm y hy
            · rw [List.mem_singleton.mp hy]
              exact hw
        refine ⟨T, _, rfl, SqT.of upd_same, rfl, _, _, rfl, _, _, rfl, rfl, rfl, ?_⟩
        refine ⟨_, rfl, _, rfl, rfl, _, rfl, ?_⟩
        refine ite2 (fun _ => ⟨_, rfl, fin fo (List.mem_of_getElem? hoo)⟩) fun _ => ?_
        refine ⟨_, rfl, _, rfl, rfl, _, rfl, ?_⟩
        exact ite2 (fun _ => ⟨_, rfl, fin fa (List.mem_of_getElem? ha)⟩) fun _ => ⟨_, rfl, fin z' (List.mem_of_getElem? hz')⟩
      · rintro H4 ⟨s4, ys, g4, hl, hm⟩
        rw [List.length_map] at hl
        exact ⟨D, ys, _, _, _, _, rfl, (d3.sm9 s4).mono (by omega), d3.2.ne hD, g4, (la hm (Nat.le_of_eq hl)).mono (by decide)⟩
    refine iteF' (fun h => w5' (V.int.inj (of_decide_eq_true h))) ?_
    refine ⟨_, rfl, rfl, _, rfl, ?_⟩
    by_cases w6' : way = 6
    · refine iteT' (by rw [w6']; rfl) ?_
      refine ⟨_, rfl, _, rfl, _, _, rfl, rfl, _, rfl, L, _, rfl, SqL.of gL2, fun p1 hp1 => ?_⟩
      rw [e5]
      have s1 := same_new (o := .lst (c5.map V.str)) hp1
      exact ⟨p1, c5, _, _, _, _, rfl, (d02.sm9 s1).mono (by omega), d02.2.ne hp1, upd_same, (la m5 l5).mono (by decide)⟩
    refine iteF' (fun h => w6' (V.int.inj (of_decide_eq_true h))) ?_
    refine ⟨_, rfl, rfl, _, rfl, ?_⟩
    by_cases w7' : way = 7
    · refine iteT' (by rw [w7']; rfl) ?_
      refine ⟨_, rfl, _, rfl, wide (show 5 ≤ 1000 by decide), fun ol' no => ?_⟩
      have eo : ([.str "", .str "zz9 = one", .str "zz9 = one 1", .str "zz9 = add 2 zz9", .str " "] : List V) = (["", "zz9 = one", "zz9 = one 1", "zz9 = add 2 zz9", " "] : List Str).map V.str := rfl
      have s1 := same_new (o := .lst [.str "", .str "zz9 = one", .str "zz9 = one 1", .str "zz9 = add 2 zz9", .str " "]) no
      have go : (upd H2 ol' (.lst [.str "", .str "zz9 = one", .str "zz9 = one 1", .str "zz9 = add 2 zz9", .str " "])) ol' = some (.lst ((["", "zz9 = one", "zz9 = one 1", "zz9 = add 2 zz9", " "] : List Str).map V.str)) := upd_same
      have d3 := d02.sm9 s1
      have nop := d02.2.ne no
      have gL3 := s1 _ _ gL2
      generalize upd H2 ol' (.lst [.str "", .str "zz9 = one", .str "zz9 = one 1", .str "zz9 = add 2 zz9", .str " "]) = H3 at *
      refine ⟨p, ol', (["", "zz9 = one", "zz9 = one 1", "zz9 = add 2 zz9", " "] : List Str).map V.str, k + 3, rfl, d3.2, SqL.of go, nop, by show 0 < 5; decide, by show 5 < 100000; decide, fun i x H4 hx d4 => ?_⟩
      obtain ⟨w, hw, rfl⟩ := str_at hx
      have aw : Asc 20 w := by
        have m := List.mem_of_getElem? hw
        simp only [List.mem_cons, List.mem_nil_iff, or_false] at m
        rcases m with rfl | rfl | rfl | rfl | rfl <;> exact (asc_c (by decide +kernel)).mono (by decide +kernel)
      refine ⟨wide (show 1 ≤ 1000 by decide), fun p2 hp2 => ?_⟩
      have d34 := d3.trans d4
      have s5 := same_new (o := .lst [.str w]) hp2
      refine ⟨L, p2, _, _, rfl, rfl, s5 _ _ (d4.st nLp gL3), upd_same, wide (by rw [List.length_map]; show ls.length + 1 ≤ 1000; omega), fun p3 hp3 => ?_⟩
      have s6 := s5.trans (same_new (o := .lst (ls.map V.str ++ [.str w])) hp3)
      have aw' : AscS 21 [w] := ⟨by
        show w.length + 1 + 0 ≤ 21
        have := aw.len
        omega, fun z hz => by
        rw [List.mem_singleton.mp hz]
        exact aw.lo⟩
      refine ⟨p3, ls ++ [w], _, _, _, _, rfl, (d34.sm9 s6).mono (by omega), (d34.2.same s5).ne hp3, ?_, (lal.app aw').mono (by decide)⟩
      rw [upd_same, List.map_append]
      rfl
    refine iteF' (fun h => w7' (V.int.inj (of_decide_eq_true h))) ?_
    refine ⟨_, rfl, _, rfl, wide (show 1 ≤ 1000 by decide), fun b1 n1' => ?_⟩
    have s1 := same_new (o := .lst [.str z]) n1'
    refine ⟨_, rfl, L, _, rfl, .inl ⟨SqL.of (s1 _ _ gL2), fun b2 n2' => ?_⟩⟩
    have s2 := s1.trans (same_new (o := .tup (ls.map V.str)) n2')
    have g1 : (upd (upd H2 b1 (.lst [.str z])) b2 (.tup (ls.map V.str))) b1 = some (.lst [.str z]) := same_new n2' _ _ upd_same
    have g2 : (upd (upd H2 b1 (.lst [.str z])) b2 (.tup (ls.map V.str))) b2 = some (.tup (ls.map V.str)) := upd_same
    have nb1 := d02.2.ne n1'
    have nb2 := (d02.2.same s1).ne n2'
    have d3 := d02.sm9 s2
    generalize upd (upd H2 b1 (.lst [.str z])) b2 (.tup (ls.map V.str)) = H3 at *
    have a1 : Asc 1 (" " : Str) := (asc_c (by decide +kernel)).mono (by decide +kernel)
    refine ⟨_, rfl, ⟨z, rfl⟩, z, rfl, rfl, by omega, _, rfl, z, " ", rfl, rfl, wide (by show z.length + 1 ≤ 1000; omega), _, rfl, " ", z, rfl, rfl, wide (by show 1 + z.length ≤ 1000; omega), wide (show 6 ≤ 1000 by decide), fun ol' no => ?_⟩
    have s4 := same_new (o := .lst [.ref b1, .ref b2, .non, .str (Txt.upper z), .str (z ++ " "), .str (" " ++ z)]) no
    have go : (upd H3 ol' (.lst [.ref b1, .ref b2, .non, .str (Txt.upper z), .str (z ++ " "), .str (" " ++ z)])) ol' = some (.lst [.ref b1, .ref b2, .non, .str (Txt.upper z), .str (z ++ " "), .str (" " ++ z)]) := upd_same
    have d4 := d3.sm9 s4
    have nop := d3.2.ne no
    have g1 := s4 _ _ g1
    have g2 := s4 _ _ g2
    have e5 : upd H3 ol' (.lst [.ref b1, .ref b2, .non, .str (Txt.upper z), .str (z ++ Str.ofString " "), .str (Str.ofString " " ++ z)]) = upd H3 ol' (.lst [.ref b1, .ref b2, .non, .str (Txt.upper z), .str (z ++ " "), .str (" " ++ z)]) := rfl
    generalize upd H3 ol' (.lst [.ref b1, .ref b2, .non, .str (Txt.upper z), .str (z ++ " "), .str (" " ++ z)]) = H4 at *
    refine ⟨p, ol', _, k + 3, rfl, d4.2, SqL.of go, nop, by show 0 < 6; decide, by show 6 < 100000; decide, fun i x H5 hx d5 => ?_⟩
    refine q x H5 ((d4.trans d5).mono (by omega)) ?_
    have m := List.mem_of_getElem? hx
    simp only [List.mem_cons, List.mem_nil_iff, or_false] at m
    rcases m with rfl | rfl | rfl | rfl | rfl | rfl
    · exact (wv_lst g1 nb1).dr d5
    · exact (wv_tup g2 nb2).dr d5
    · exact wv_non
    · exact wv_str (F.asc.upper.mono (by decide))
    · exact wv_str ((F.asc.app a1).mono (by decide))
    · exact wv_str ((a1.app F.asc).mono (by decide))
end
end OG
set_option Elab.async false
set_option linter.all false
set_option maxRecDepth 100000
set_option maxHeartbeats 8000000
namespace OG
open PySem PySem.Spec PyProof.Rows L2 LamX
theorem SqT.extN {K : PySem.W.Frag} {H H' : Hp} {a : Addr} {xs : List V} (h : SqT K H a xs) (e : ExtN H H') : SqT K H' a xs :=
  h.elim (fun h => .inl (h.elim (fun h => .inl (e _ _ h fun _ z => by cases z)) fun ⟨o, h⟩ => .inr ⟨o, e _ _ h fun _ z => by cases z⟩)) fun h => .inr h
theorem SqL.extN {K : PySem.W.Frag} {H H' : Hp} {a : Addr} {xs : List V} (h : SqL K H a xs) (e : ExtN H H') : SqL K H' a xs :=
  h.elim (fun h => .inl (h.elim (fun h => .inl (e _ _ h fun _ z => by cases z)) fun ⟨o, h⟩ => .inr ⟨o, e _ _ h fun _ z => by cases z⟩)) fun h => .inr h
theorem NearV.extN {H H' : Hp} (s : ExtN H H') : ∀ {v : V}, NearV H v → NearV H' v
  | .non, h => h
  | .bl _, h => h
  | .int _, h => h
  | .str _, h => h
  | .ref a, h => by
    rcases h with ⟨xs, h⟩ | ⟨xs, h⟩ | ⟨xs, h⟩
    · exact .inl ⟨xs, s _ _ h fun _ z => by cases z⟩
    · exact .inr (.inl ⟨xs, s _ _ h fun _ z => by cases z⟩)
    · exact .inr (.inr ⟨xs, s _ _ h fun _ z => by cases z⟩)
theorem WV.extN {p : Addr} {H H' : Hp} {v : V} (h : WV p H v) (s : ExtN H H') : WV p H' v := ⟨NearV.extN s h.near, h.np⟩
/-- the lambda's name -/
def jq : Str := (envOfC "_law_right" (defScope s_l_right) (0 : Nat) (0 : Nat) .none).qual ++ "<lambda>"
abbrev TT1 (P1 : Addr) : List (Addr × Str) := [(P1, jq)]
/-- the judge's code object -/
structure JAt (K : PySem.W.Frag) (mg : Str → Option Value) (T : Txt K mg) (c : Addr) : Prop where
  ex : ∃ (oc : Value) (od : Option Addr) (kV doc pm : Value) (an : Option Addr) (ct : Value) (osl : Array (Option Value)),
    T.fd_l_right = PySem.W.fnOf "_law_right" "_law_right" (defArgs s_l_right) (defBody s_l_right) (defScope s_l_right) .none kV doc pm an (.ref c) ct ∧ K.lookup T.f_l_right = some ⟨oc, od, .func T.fd_l_right, osl⟩ ∧ PySem.W.codeIn K (.ref c) "_law_right" = true
/-- what is made of the call that is heard -/
def THeard (K : PySem.W.Frag) (CS : Addr) : (XK → Hp → VK → Prop) → Hp → VK → Prop := fun tl H Q => ∀ H1, Same H H1 →
  tl (fun cls d H' => ∃ b, PySem.W.exmOne K cls (.ref CS) = some b ∧ (b = true → ∀ a, H' a = none → ∀ t, upd H' a (OGX.ExV cls d a) t = none → Q (.ref t) (upd (upd H' a (OGX.ExV cls d a)) t (.tup [.ref a, .non]))) ∧ (b = false → False)) H1
    (fun v H' => ∀ t, H' t = none → Q (.ref t) (upd H' t (.tup [.non, v])))
theorem pe_weak {X : Cx} {e : Expr} {te : TE} (h : PE X e te) : PE X e (fun σ H Q => ∃ Qs : VK, (∀ v H', Qs v H' → Q v H') ∧ te σ H Qs) := by
  refine ⟨fun pins s σ H Q I hh => ?_⟩
  obtain ⟨Qs, hq, ht⟩ := hh
  refine wpAny_mono (h.run pins s σ H Qs I ht) (fun u s1 hu => ?_) fun _ _ x => x
  obtain ⟨v, H1, I1, r1, q1⟩ := hu
  exact ⟨v, H1, I1, r1, hq v H1 q1⟩
section
variable {P : Program} {w : World} {K : PySem.W.Frag} {mg : Str → Option Value} {base : Heap}
theorem heard_gives {T : Txt K mg} {g : Addr} {cdg : Value} {q : Str} : OGX.GivesToA P w K mg base ["call", "caught", "back", "error"] "_law_heard" (defScope s_l_heard) g cdg (defBody s_l_heard) "call" q (THeard K T.c_GateError) := by
  intro A outer f c' s H Q tl act hc h
  refine ⟨_, pss_cons (ps_asg (pe_tup (pa_cons pe_non (pa_cons pe_non pa_nil))) (pg_tup (by rfl) (pgs_cons (pg_name (i := 1) sc_l_heard.nd rfl (Or.inl rfl)) (pgs_cons (pg_name (i := 2) sc_l_heard.nd rfl (Or.inl rfl)) pgs_nil))))
    (pss_cons (OGX.ps_try_keep (i := 3) (c := .ref T.c_GateError)
      (tb := fun W D σ H => ∃ Ech : XK, (∀ cls d H', Ech cls d H' → W cls d σ H') ∧ σ[0]? = some (some (.ref f)) ∧ H c' = some (CodeO c' q) ∧ ∃ Qs : VK, (∀ v H', Qs v H' → D.nx (σ.set 2 (some v)) H') ∧ tl Ech H Qs)
      rfl rfl rfl sc_l_heard.nd rfl rfl ⟨by rfl, by decide, .inl T.g_GateError⟩ L2.takes0 (fun W pn xe tk _ => ?_) (fun a oe cls d pn _ _ => pss_one (ps_set (i := 1) sc_l_heard.nd rfl (Or.inl rfl) (pv 3))))
    (pss_one (ps_ret (pe_tup (pa_cons (pv 1) (pa_cons (pv 2) pa_nil)))))), ?_⟩
  · refine ⟨fun pins s' σ H' D I h' => ?_⟩
    obtain ⟨Ech, hW, h1, h2, Qs, hQ, h3⟩ := h'
    exact (pss_one (ps_set (i := 2) sc_l_heard.nd rfl (Or.inl rfl) (pe_weak (act W pn xe Ech σ _ _ tk hW)))).run pins s' σ H' D I ⟨Qs, hQ, rfl, h1, h2, h3⟩
  · refine ⟨Nat.le_trans (show 2 ≤ 1000 by decide) (by decide), fun t0 ht0 => ?_⟩
    have s0 := same_new (o := .tup [.non, .non]) ht0
    refine ⟨t0, _, rfl, SqT.of upd_same, rfl, _, _, rfl, _, _, rfl, rfl, ?_⟩
    refine ⟨_, ?_, rfl, s0 _ _ hc, _, ?_, h _ s0⟩
    · rintro cls d H' ⟨b, e1, e2, e3⟩
      refine ⟨b, e1, fun hb a ha => ?_, fun hb => e3 hb⟩
      refine ⟨.ref a, rfl, fun na => ?_⟩
      exact ⟨_, rfl, _, rfl, Nat.le_trans (show 2 ≤ 1000 by decide) (by decide), fun t ht => e2 hb a ha t ht⟩
    · intro v H' hv
      exact ⟨_, rfl, _, rfl, Nat.le_trans (show 2 ≤ 1000 by decide) (by decide), fun t ht => hv t ht⟩
end
theorem tabS_kp {H H' : Hp} {p Pt : Addr} {q : Str} (t : TabS H Pt q) (hp : ∃ xs, H p = some (.lst xs)) (k : Kp p H H') : TabS H' Pt q := by
  obtain ⟨ys, hp⟩ := hp
  have ne : ∀ {b o}, H b = some o → (∀ xs, o ≠ .lst xs) → b ≠ p := fun {b o} e n z => by
    rw [z, hp] at e
    exact n ys (Option.some.inj e).symm
  obtain ⟨ps, h1, h2, h3⟩ := t
  refine ⟨ps, k _ _ (ne h1 fun xs z => by cases z) h1, h2, fun pos cv hc => ?_⟩
  obtain ⟨c, e1, e2⟩ := h3 pos cv hc
  exact ⟨c, e1, k _ _ (ne e2 fun xs z => by
    unfold CodeO at z
    cases z) e2⟩
theorem tabs_kp {H H' : Hp} {p : Addr} {TT : List (Addr × Str)} (t : Tabs TT H) (hp : ∃ xs, H p = some (.lst xs)) (k : Kp p H H') : Tabs TT H' := fun q hq => tabS_kp (t q hq) hp k
/-- all but p and the tables stays -/
def KpN (p : Addr) (H H' : Hp) : Prop := ∀ b o, b ≠ p → H b = some o → (∀ ps, o ≠ .tbl ps) → H' b = some o
end OG
set_option Elab.async false
set_option linter.all false
set_option maxRecDepth 100000
set_option maxHeartbeats 8000000
namespace OG
open PySem PySem.Spec PyProof.Rows L2
theorem cut_one : ∀ {ns : List Int}, ns.length ≤ 1 → cutV (ns.map V.int) none (some 1) = ns.map V.int
  | [], _ => rfl
  | [x], _ => rfl
  | _ :: _ :: _, h => by
    rw [List.length_cons, List.length_cons] at h
    omega
theorem bit_mul {c n : Int} (hn : n = 0 ∨ n = 1) (hc : c.natAbs < 2 ^ 18) : (c * n).natAbs < 2 ^ 20 := by
  rcases hn with rfl | rfl
  · rw [Int.mul_zero]
    decide
  · rw [Int.mul_one]
    exact Nat.lt_trans hc (by decide)
section
variable {P : Program} {w : World} {K : PySem.W.Frag} {mg : Str → Option Value} {base : Heap}
def spPot (K : PySem.W.Frag) : Sp := fun vs H Q _ => ∃ (a : Addr) (ns : List Int) (n : Nat), vs = [.ref a, .int (n : Int)] ∧ n ≤ 1 ∧ SqL K H a (ns.map V.int) ∧ ns.length ≤ 63 ∧ (∀ z ∈ ns, Builtin.Int.intBits z ≤ 1048576) ∧ ∀ (q : Addr) (H' : Hp), Same H H' → H q = none → Pot 900000 H' q → Q (.ref q) H'
theorem ok_l_pot (T : Txt K mg) : FnOk P w K mg base CX0 1 T.f_l_pot T.fd_l_pot ["script", "place"] (spPot K) := by
  refine T.F_l_pot.ok sc_l_pot (fun vs H Q E h => ?_) (fun cdv A outer s H vs Q E hr h => ?_)
  · obtain ⟨a, ns, n, rfl, _⟩ := h
    rfl
  · obtain ⟨a, ns, n, rfl, hn1, hS, hl, hb, q⟩ := h
    have hn01 : (n : Int) = 0 ∨ (n : Int) = 1 := by omega
    refine ⟨_, (pss_cons (ps_set (i := 2) sc_l_pot.nd rfl (Or.inl rfl) (pe_ifExp (pt_cmpR op_lt (pv 1) (pe_callB call_len_seq (by rfl) T.n_len PySem.boot_len (pa_cons (pv 0) pa_nil)) (nomark _)) (pe_ix ix_list (pv 0) (pv 1) (fun _ _ => rfl)) (pe_op op_add (pe_op op_add (pe_op op_mod (pe_callB (cr_sum rfl) (by rfl) T.n_sum (by decide +kernel) (pa_cons (pe_slice sl_list (pv 0) po_none (po_some pe_int)) pa_nil)) pe_int) (pe_op op_mulW pe_int (pv 1))) pe_int)))
  (pss_cons (ps_set (i := 3) sc_l_pot.nd rfl (Or.inl rfl) (pe_op op_mulW (pe_op op_mod (pe_callTy call_int1 (by rfl) T.n_int (by decide +kernel) (pa_cons (pe_callB call_abs (by rfl) T.n_abs (by decide +kernel) (pa_cons (pv 2) pa_nil)) pa_nil)) (pe_op op_powW (pe_op op_powW pe_int pe_int) pe_int)) (pe_callTy call_int1 (by rfl) T.n_int (by decide +kernel) (pa_cons (pe_cmpR op_ge (pe_callB call_abs (by rfl) T.n_abs (by decide +kernel) (pa_cons (pv 2) pa_nil)) (pe_op op_powW pe_int pe_int) (nomark _)) pa_nil))))
  (pss_cons (ps_set (i := 4) sc_l_pot.nd rfl (Or.inl rfl) (pe_op op_mod (pe_callTy call_int1 (by rfl) T.n_int (by decide +kernel) (pa_cons (pv 2) pa_nil)) pe_int))
  (pss_one (ps_ret (pe_lst (pa_cons (pv 3) (pa_cons (pe_op op_mod (pe_callTy call_int1 (by rfl) T.n_int (by decide +kernel) (pa_cons (pe_op op_add (pe_op op_add (pe_op op_mulW (pv 4) pe_int) (pe_op op_mulW (pe_op op_mulW pe_int (pv 1)) (pv 1))) pe_int) pa_nil)) pe_int) (pa_cons pe_int pa_nil))))))))), ?_⟩
    refine seq_fin (fun σ' H' => ∃ c : Int, σ' = [some (.ref a), some (.int (n : Int)), some (.int c), none, none] ∧ Same H H') ?_ (fun fin => ?_)
    · rintro σ' H' ⟨c, rfl, s1⟩
      refine ⟨.int c, rfl, c, rfl, .inl ⟨_, rfl, ?_⟩⟩
      refine ⟨_, _, rfl, rfl, pow_c (by decide), _, _, rfl, rfl, pow_c (by decide +kernel), _, _, rfl, rfl, (show (0 : Int) < ((10 : Int) ^ (60 : Int).toNat) ^ (5 : Int).toNat by decide +kernel), ?_⟩
      refine ⟨.int c, rfl, c, rfl, _, _, rfl, rfl, pow_c (by decide), _, _, rfl, rfl, .inr ⟨_, rfl, ?_⟩⟩
      obtain ⟨ac, hac⟩ : ∃ ac : Int, ac = (if c < 0 then -c else c) := ⟨_, rfl⟩
      rw [← hac]
      have m0 : 0 ≤ ac % ((10 : Int) ^ (60 : Int).toNat) ^ (5 : Int).toNat := Int.emod_nonneg _ (by decide +kernel)
      have m1 : ac % ((10 : Int) ^ (60 : Int).toNat) ^ (5 : Int).toNat < 2 ^ 1000 := Int.lt_trans (Int.emod_lt_of_pos _ (by decide +kernel)) (by decide +kernel)
      obtain ⟨bo, hbo⟩ : ∃ bo : Int, bo = (if decide ((10 : Int) ^ (18 : Int).toNat ≤ ac) = true then 1 else 0) := ⟨_, rfl⟩
      rw [← hbo]
      have b01 : bo = 0 ∨ bo = 1 := by
        rw [hbo]
        split
        · exact .inr rfl
        · exact .inl rfl
      have e1000 : (2 : Int) ^ 1000 = ((2 ^ 1000 : Nat) : Int) := by decide +kernel
      have key : ∀ mo : Int, 0 ≤ mo → mo < 2 ^ 1000 → mo.natAbs < 2 ^ 1000 ∧ 0 ≤ mo * bo ∧ mo * bo < 2 ^ 1000 := by
        intro mo m0 m1
        refine ⟨by omega, ?_, ?_⟩
        · rcases b01 with e | e
          · rw [e, Int.mul_zero]
            exact Int.le_refl _
          · rw [e, Int.mul_one]
            exact m0
        · rcases b01 with e | e
          · rw [e, Int.mul_zero]
            decide +kernel
          · rw [e, Int.mul_one]
            exact m1
      obtain ⟨k1, o0, o1⟩ := key _ m0 m1
      have bn : bo.natAbs < 2 ^ 2 := by omega
      have nn : (n : Int).natAbs < 2 ^ 2 := by omega
      refine ⟨_, _, rfl, rfl, wide_mul (a := 1000) (b := 2) k1 bn (by decide) (by decide) (by decide), ?_⟩
      refine ⟨.int c, rfl, .inl ⟨c, rfl, _, _, rfl, rfl, (show (0 : Int) < 2305843009213693951 by decide), ?_⟩⟩
      have p0 : 0 ≤ c % 2305843009213693951 := Int.emod_nonneg _ (by decide)
      have p1 : c % 2305843009213693951 < 2305843009213693951 := Int.emod_lt_of_pos _ (by decide)
      have e61 : (2 : Nat) ^ 61 = 2305843009213693952 := by decide
      have p2 : (c % 2305843009213693951).natAbs < 2 ^ 61 := by omega
      refine ⟨_, rfl, _, rfl, _, _, rfl, rfl, wide_mul (a := 61) (b := 20) p2 (by decide) (by decide) (by decide) (by decide), ?_⟩
      refine ⟨_, rfl, _, _, rfl, rfl, wide_mul (a := 20) (b := 2) (by decide) nn (by decide) (by decide) (by decide), _, rfl, _, _, rfl, rfl, wide_mul (a := 20) (b := 2) (bit_mul hn01 (by decide)) nn (by decide) (by decide) (by decide), ?_⟩
      refine ⟨_, _, rfl, rfl, _, _, rfl, rfl, .inl ⟨_, rfl, _, _, rfl, rfl, (show (0 : Int) < 2305843009213693921 by decide), ?_⟩⟩
      refine ⟨Nat.le_trans (show 3 ≤ 1000 by decide) (by decide), fun qa hqa => ?_⟩
      refine q qa _ (s1.trans (same_new hqa)) (s1.free hqa) ⟨_, _, _, upd_same, o0, o1, Int.emod_nonneg _ (by decide), ?_, by decide, by decide⟩
      exact Int.lt_trans (Int.emod_lt_of_pos _ (by decide)) (by decide)
    · refine ⟨.int (n : Int), rfl, .ref a, rfl, a, _, rfl, .inl hS, _, _, rfl, rfl, _, rfl, ?_⟩
      rw [List.length_map]
      refine ite2 (fun h => ?_) (fun h => ?_)
      · have h : n < ns.length := by
          have := of_decide_eq_true h
          omega
        refine ⟨.ref a, rfl, .int (n : Int), rfl, a, _, (n : Int), .int ns[n], rfl, rfl, hS, atI_nat (by rw [List.getElem?_map, List.getElem?_eq_getElem h]; rfl), ?_⟩
        exact fin _ _ ⟨_, rfl, Same.refl _⟩
      · have hle : ns.length ≤ 1 := by
          by_cases z : n < ns.length
          · exact absurd (decide_eq_true (show (n : Int) < (ns.length : Int) by omega)) h
          · omega
        refine ⟨.ref a, rfl, _, rfl, a, _, rfl, hS, fun l1 hl1 => ?_⟩
        have s1 := same_new (o := .lst (cutV (ns.map V.int) none (some 1))) hl1
        refine ⟨l1, ns, rfl, SqL.of (by rw [upd_same, cut_one hle]), _, _, rfl, rfl, (show (0 : Int) < 1000003 by decide), ?_⟩
        refine ⟨.int (n : Int), rfl, _, _, rfl, rfl, wide_mul (a := 20) (b := 2) (by decide) (show (n : Int).natAbs < 2 ^ 2 by omega) (by decide) (by decide) (by decide), _, _, rfl, rfl, _, _, rfl, rfl, ?_⟩
        exact fin _ _ ⟨_, rfl, s1⟩
/-- places of cells -/
def spCells (K : PySem.W.Frag) : Sp := fun vs H Q _ => ∃ (a : Addr) (ns : List Int), vs = [.ref a, .int 2] ∧ SqL K H a (ns.map V.int) ∧ ns.length ≤ 63 ∧ ∀ (q : Addr) (c : Nat) (H' : Hp), Same H H' → c ≤ 2 → H' q = some (.lst ((List.range c).map fun (n : Nat) => V.int (n : Int))) → Q (.ref q) H'
theorem ok_l_cells (T : Txt K mg) : FnOk P w K mg base CX0 1 T.f_l_cells T.fd_l_cells ["script", "most"] (spCells K) := by
  refine T.F_l_cells.ok sc_l_cells (fun vs H Q E h => ?_) (fun cdv A outer s H vs Q E hr h => ?_)
  · obtain ⟨a, ns, rfl, _⟩ := h
    rfl
  · obtain ⟨a, ns, rfl, hS, hl, q⟩ := h
    refine ⟨_, (pss_one (ps_ret (pe_listRg (by rfl) (by rfl) T.n_list (prg_1 (by rfl) T.n_range (pe_callB (call_max2 rfl) (by rfl) T.n_max (by decide +kernel) (pa_cons pe_int (pa_cons (pe_callB (call_min2 rfl) (by rfl) T.n_min (by decide +kernel) (pa_cons (pv 1) (pa_cons (pe_callB call_len_seq (by rfl) T.n_len PySem.boot_len (pa_cons (pv 0) pa_nil)) pa_nil))) pa_nil))))))), ?_⟩
    refine ⟨.int 2, rfl, .ref a, rfl, a, _, rfl, .inl hS, ?_⟩
    rw [List.length_map]
    obtain ⟨c, hc, ec⟩ : ∃ c : Nat, c ≤ 2 ∧ (if (if (ns.length : Int) < 2 then (ns.length : Int) else 2) > 1 then (if (ns.length : Int) < 2 then (ns.length : Int) else 2) else 1) = (c : Int) := by
      by_cases h : (ns.length : Int) < 2
      · rw [if_pos h, if_neg (by omega)]
        exact ⟨1, by decide, rfl⟩
      · rw [if_neg h, if_pos (by decide)]
        exact ⟨2, by decide, rfl⟩
    refine ⟨2, _, rfl, 1, _, rfl, _, rfl, ?_⟩
    dsimp only
    rw [ec]
    refine ⟨RgOk.of_le (by omega) (by omega) (by omega) (by omega), fun l hl => ?_⟩
    refine q l c _ (same_new hl) hc ?_
    rw [upd_same]
    unfold rgV
    rw [show ((c : Int) - 0).toNat = c by omega]
    exact congrArg (fun l => some (HO.lst l)) (List.map_congr_left fun i _ => by rw [Int.zero_add])
end
end OG
set_option Elab.async false
set_option linter.all false
set_option maxRecDepth 100000
set_option maxHeartbeats 8000000
namespace OG
open PySem PySem.Spec PyProof.Rows L2 LamX
theorem all_true : ∀ n : Nat, (List.replicate n true).all id = true
  | 0 => rfl
  | n + 1 => by
    rw [List.replicate_succ, List.all_cons, all_true n]
    rfl
theorem made_same {H : Hp} {x dx C : Addr} (hx : H x = none) (hd : H dx = none) (n : dx ≠ x) : Same H (upd (upd H dx (.own x)) x (.ins C dx [])) := fun b o e => by
  rw [upd_ne (ne_of_none e hx), upd_ne (ne_of_none e hd)]
  exact e
theorem rfl_ints {r : Int} {p : Addr} (h : 0 ≤ r) : [V.ref p, .int r] = [.ref p, .int (r.toNat : Int)] := by
  rw [Int.toNat_of_nonneg h]
theorem rowsR_lt : ∀ {rs : List Str} {kn : Kn} {m k : Nat}, rowsR kn m rs = .inl k → k < m + rs.length
  | [], kn, m, k, h => by cases h
  | r :: rs, kn, m, k, h => by
    unfold rowsR at h
    split at h
    · cases h
      rw [List.length_cons]
      omega
    · split at h
      · rename_i k' e
        cases h
        have := rowsR_lt e
        rw [List.length_cons]
        omega
      · cases h
theorem valR_lt {H : Hp} {v : V} {n : Nat} (hv : NearV H v) (h : valR v = .inl n) : n ≤ 5000 := by
  cases v with
  | str z =>
    have hz : TextOk z := hv
    have hn := hz.n
    have h : textR z = .inl n := h
    unfold textR at h
    split at h
    · cases h
      decide
    · rename_i hd rs e
      rw [e, List.length_cons] at hn
      split at h
      · split at h
        · cases h
          decide
        · have := rowsR_lt h
          omega
      · cases h
        decide
  | _ =>
    cases h
    decide
section
variable {P : Program} {w : World} {K : PySem.W.Frag} {mg : Str → Option Value} {base : Heap}
def spRt10 (Pt : Addr) : Sp := fun vs H Q _ => ∃ p : Addr, vs = [.ref p] ∧ Pot 900000 H p ∧ Tabs (TT1 Pt) H ∧ ∀ H', KpN p H H' → Tabs (TT1 Pt) H' → Q (.bl true) H'
theorem ok_l_right (T : Txt K mg) (XT : TxtX K mg T) {c Pt : Addr} (J : JAt K mg T c) (TB : TabB base mg c Pt) : OGX.FnG P w K mg base 13 T.f_l_right T.fd_l_right ["pot"] (spRt10 Pt) := by
  obtain ⟨oc, od, kV, doc, pm, an, ct, osl, efd, lk, hcd⟩ := J.ex
  rw [efd] at lk ⊢
  refine OGX.fnG_of lk hcd sc_l_right (fun vs H Q E h => ?_) fun A outer s H vs Q E hG hr h => ?_
  · obtain ⟨p, rfl, _⟩ := h
    rfl
  obtain ⟨p, rfl, hP, hT, q⟩ := h
  obtain ⟨och, odh, kVh, doch, pmh, anh, cdvh, cth, oslh, efh, lkh, hch⟩ := T.F_l_heard.ex
  have bh := T.b_l_heard
  rw [efh] at lkh bh
  refine ⟨_, (pss_cons (ps_set (i := 1) sc_l_right.nd rfl (Or.inl rfl) (pe_disp (pps_cons pe_str pe_int (pps_cons pe_str (pe_call (ok_l_book_names T) (hr.mono (by decide)) (by rfl) T.g_l_book_names T.F_l_book_names.kp T.b_l_book_names .nil pass0 (pa_cons (pv 0) (pa_cons pe_int pa_nil))) pps_nil)) (by rfl) (by rfl) (fun z => by cases z) (by decide)))
  (pss_cons (ps_set (i := 2) sc_l_right.nd rfl (Or.inr rfl) (pe_call (ok_l_script_drawn T) (hr.mono (by decide)) (by rfl) T.g_l_script_drawn T.F_l_script_drawn.kp T.b_l_script_drawn .nil pass0 (pa_cons (pv 0) (pa_cons (pv 1) (pa_cons (pe_call (ok_l_take T) (hr.mono (by decide)) (by rfl) T.g_l_take T.F_l_take.kp T.b_l_take .nil pass0 (pa_cons (pv 0) (pa_cons pe_int pa_nil))) (pa_cons (pe_op op_add pe_int (pe_call (ok_l_take T) (hr.mono (by decide)) (by rfl) T.g_l_take T.F_l_take.kp T.b_l_take .nil pass0 (pa_cons (pv 0) (pa_cons pe_int pa_nil)))) (pa_cons pe_bl pa_nil)))))))
  (pss_cons (ps_set (i := 3) sc_l_right.nd rfl (Or.inr rfl) (pe_call (ok_l_script_text T) (hr.mono (by decide)) (by rfl) T.g_l_script_text T.F_l_script_text.kp T.b_l_script_text .nil pass0 (pa_cons (pv 2) pa_nil)))
  (pss_cons (ps_set (i := 4) sc_l_right.nd rfl (Or.inl rfl) (pe_op op_cat (pe_lc (own := [("lap", 8)]) (g := gName 8) (by rfl) sc_l_right.nd (pi_range1 (by rfl) T.n_range (pa_cons pe_int pa_nil)) (blkOk_by (own := [("lap", 8)]) (by rfl)) (fun _ _ _ _ _ => (pg_name (i := 8) sc_l_right.nd rfl (Or.inl rfl))) (fun _ _ _ _ _ => pts_nil) (fun _ _ _ _ _ => (pe_call (ok_l_more_text T) (hr.mono (by decide)) (by rfl) T.g_l_more_text T.F_l_more_text.kp T.b_l_more_text .nil pass0 (pa_cons (pv 0) (pa_cons (pv 2) pa_nil))))) (pe_lc (own := [("lap", 8)]) (g := gName 8) (by rfl) sc_l_right.nd (pi_range1 (by rfl) T.n_range (pa_cons pe_int pa_nil)) (blkOk_by (own := [("lap", 8)]) (by rfl)) (fun _ _ _ _ _ => (pg_name (i := 8) sc_l_right.nd rfl (Or.inl rfl))) (fun _ _ _ _ _ => pts_nil) (fun _ _ _ _ _ => (pe_call (ok_l_bent_text T) (hr.mono (by decide)) (by rfl) T.g_l_bent_text T.F_l_bent_text.kp T.b_l_bent_text .nil pass0 (pa_cons (pv 0) (pa_cons (pv 3) pa_nil)))))))
  (pss_cons (ps_set (i := 4) sc_l_right.nd rfl (Or.inl rfl) (pe_op op_cat (pv 4) (pe_lst (pa_cons pe_str (pa_cons pe_str (pa_cons pe_str (pa_cons pe_str (pa_cons pe_str (pa_cons pe_str (pa_cons pe_str (pa_cons (pe_op op_add_str (pv 3) pe_str) (pa_cons (pe_slice sl_str (pv 3) po_none (po_some (pe_un un_neg pe_int))) pa_nil))))))))))))
  (pss_cons (ps_for PassesOwn.never rfl (pi_list (pe_op op_cat (pv 4) (pe_lst (pa_cons (pe_call (ok_l_odd T) (hr.mono (by decide)) (by rfl) T.g_l_odd T.F_l_odd.kp T.b_l_odd .nil pass0 (pa_cons (pv 0) pa_nil)) (pa_cons (pe_call (ok_l_odd T) (hr.mono (by decide)) (by rfl) T.g_l_odd T.F_l_odd.kp T.b_l_odd .nil pass0 (pa_cons (pv 0) pa_nil)) (pa_cons (pe_lst (pa_cons (pv 3) pa_nil)) (pa_cons (pe_tup (pa_cons (pv 3) pa_nil)) (pa_cons pe_non (pa_cons pe_bl (pa_cons pe_int pa_nil)))))))))) (pg_name (i := 7) sc_l_right.nd rfl (Or.inr rfl)) (pss_cons (ps_par (i := 5) (j := 6) (by rfl) sc_l_right.nd rfl rfl (by decide) rfl rfl (pa_cons (pe_call (ok_l_wrong T) (hr.mono (by decide)) (by rfl) T.g_l_wrong T.F_l_wrong.kp T.b_l_wrong .nil pass0 (pa_cons (pv 7) pa_nil)) (pa_cons (pe_ix ix_tup (OGX.pe_lamcallS (T := TT1 Pt) (TT := THeard K T.c_GateError) (k := 10) (by rfl) T.g_l_heard T.F_l_heard.kp lkh hch bh sc_l_heard rfl (Or.inl rfl) (OGX.GivesToA.here heard_gives) TB rfl List.mem_cons_self (fun p hp _ => (by rw [List.mem_singleton.mp hp] : p.2 = jq)) (hr.mono (by decide)) (lamS_by (by show lamSB (defScope s_l_right) _ = true; decide +kernel)) rfl (fun _ _ _ _ _ => rfl)
      (fun A outer s H E f c' hr2 => pe_make XT.mkS (ok_Script_init T XT) (hr2.mono (by decide)) (by rfl) T.g_Script T.b_Script_init .nil (passes_call (takes_of rfl rfl rfl rfl) (fun _ _ _ _ h => h)) (pa_cons (pv 7) pa_nil))) pe_int (fun _ _ => rfl)) pa_nil)) (by rfl))
  (pss_cons (ps_if (PW.pt (pw_and (pt_cmpR op_isN (pv 5) pe_non (nomark _)) (pw_and1 (pt_cmpR op_notN (pv 6) pe_non (nomark _))))) (pss_one (ps_ret pe_bl)) pss_nil)
  (pss_one (ps_if (PW.pt (pw_and (pt_cmpR op_notN (pv 5) pe_non (nomark _)) (pw_and1 (PW.pt (pw_or (pt_not (pt_val (pe_callB OGX.call_isK (by rfl) T.n_isinstance (by decide +kernel) (pa_cons (pv 6) (pa_cons (C8.pe_gc (v := .ref T.c_BadScript) (by rfl) ⟨_, T.g_BadScript, rfl⟩) pa_nil))))) (pw_or1 (pt_cmpR op_ne (pe_callB (OGX.call_reprV hG hr.units) (by rfl) T.n_repr (by decide +kernel) (pa_cons (OGX.pe_xvA (pv 6)) pa_nil)) (pe_callB (OGX.call_reprV hG hr.units) (by rfl) T.n_repr (by decide +kernel) (pa_cons (pv 5) pa_nil)) (nomark _)))))))) (pss_one (ps_ret pe_bl)) pss_nil)))))
  (pss_one (ps_ret pe_bl)))))))), ?_⟩
  have wide : ∀ {n : Nat}, n ≤ 1000 → n ≤ sizeLine := fun h => Nat.le_trans h (by decide)
  refine fun bd hbd => ?_
  have e0 := same_new (o := .dK []) hbd
  have nbp : bd ≠ p := hP.ne hbd
  have gb0 : (upd H bd (.dK [])) bd = some (.dK []) := upd_same
  have hP0 := hP.same e0
  generalize upd H bd (.dK []) = H0 at *
  have d0 : Dr p 900000 H H0 := ⟨Same.kp e0, hP0⟩
  refine ⟨_, rfl, p, 2, 899900, rfl, d0.2.mono (by decide), by decide, fun kt ks H2 nk d1 _ nkt gkt => ?_⟩
  have gb2 := d1.st nbp gb0
  have d2 := d0.trans d1
  obtain ⟨bkvs, hbk⟩ : ∃ b : List (Key × V), b = [(.inr "by", .int 0), (.inr "kinds", .ref kt)] := ⟨_, rfl⟩
  have lbk : bkvs.length = 2 := by
    rw [hbk]
    rfl
  refine ⟨gb2, bkvs, by rw [hbk]; rfl, by omega, ?_⟩
  have mk : mergeK [] bkvs = bkvs := by
    rw [hbk]
    exact (putK_new (kvs := [((.inr "by" : Key), V.int 0)]) _ (by rw [valV_neg (k_ne (show ¬ ("by" : Str) = "kinds" by decide +kernel))]; rfl)).trans rfl
  rw [mk]
  have vB : valV bkvs (.inr "by") = some (.int 0) := by
    rw [hbk]
    exact valV_pos rfl
  have vK : valV bkvs (.inr "kinds") = some (.ref kt) := by
    rw [hbk, valV_neg (k_ne (by decide +kernel))]
    exact valV_pos rfl
  have d3 := d2.mut (o := .dK bkvs) hbd nbp
  have gb3 : (upd H2 bd (.dK bkvs)) bd = some (.dK bkvs) := upd_same
  have gkt3 : (upd H2 bd (.dK bkvs)) kt = some (.tup (ks.map V.str)) := by
    rw [upd_ne (ne_of gkt gb2 (by intro z; cases z))]
    exact gkt
  generalize upd H2 bd (.dK bkvs) = H3 at *
  refine ⟨_, rfl, _, rfl, _, rfl, p, 5, 899899, rfl, d3.2, by decide, by decide, fun r2 H4 r2a r2b d4 => ?_⟩
  refine ⟨_, rfl, p, 8, 899898, rfl, d4.2, by decide, by decide, fun r3 H5 r3a r3b d5 => ?_⟩
  refine ⟨_, _, rfl, rfl, ?_⟩
  have d35 := d4.trans d5
  have d6 := d3.trans d35
  have gb6 := d35.st nbp gb3
  have gkt6 := d35.st nkt gkt3
  refine ⟨p, bd, kt, bkvs, ks, r2.toNat, (1 + r3).toNat, 890000, false, by rw [Int.toNat_of_nonneg r2a, Int.toNat_of_nonneg (by omega)]; rfl, by omega, by omega, by omega, gb6, vB, vK, SqT.of gkt6, by rw [nk.len]; omega, by rw [nk.len]; omega, nk.is, d6.2.mono (by omega), fun lp xs lns H7 d7 nl7 nlp gl td L => ?_⟩
  obtain ⟨n, hn⟩ : ∃ n, n = (1 + r3).toNat := ⟨_, rfl⟩
  rw [← hn] at L
  have n1 : 1 ≤ n := by omega
  have n8 : n ≤ 8 := by omega
  have ll := L.len
  have fit : ∀ l ∈ lns, LnFit l := fun l hl => by
    obtain ⟨i, hi⟩ := List.mem_iff_getElem?.mp hl
    exact ⟨(L.nice l hl).nm.len, (L.ok.at hi).fm.fit (KnOk.of KnOk.nil (L.ok.take i)) (L.nice l hl).fm⟩
  have few := few_text fit L.nice (by omega)
  have d07 := d6.trans d7
  refine ⟨_, rfl, lp, xs, lns, rfl, SqL.of gl, td, fit, by omega, fun H8 s8 => ?_⟩
  have d08 := d07.sm9 s8
  have gl8 := s8 _ _ gl
  have td8 := td.mv (Same.tk s8)
  obtain ⟨z, hz⟩ : ∃ z, z = textT lns := ⟨_, rfl⟩
  rw [← hz] at few ⊢
  refine ⟨16, rfl, by decide, by decide, fun D hD => ?_⟩
  have nDp := d08.2.ne hD
  refine lc_range (lo := 0) (n := 16) (fun i H' => i ≤ 16 ∧ Dr p (889000 - 20 * i) H8 H' ∧ ∃ vs : List V, H' D = some (.lst vs) ∧ vs.length = i ∧ ∀ x ∈ vs, WV p H' x) ⟨Nat.zero_le _, (Dr.start d08.2 (by omega)).new hD, [], upd_same, rfl, fun _ h => by cases h⟩ ?_ ?_
  · rintro i H' hi ⟨_, d9, vs, gv, lv, av⟩
    refine ⟨rfl, ?_⟩
    refine ⟨_, rfl, _, rfl, p, lp, 889000 - 20 * (i + 1), n, xs, lns, rfl, d9.2.mono (by omega), d9.st nlp gl8, nlp, td8.mv (d9.tk d08.2), L, n1, n8, fun y H2 d10 ay => ?_⟩
    refine ⟨vs, d10.st nDp gv, by rw [lv]; exact Nat.lt_of_le_of_lt (show i ≤ 1000 by omega) (by decide), hi, (d9.trans d10).mut hD nDp, vs ++ [.str y], upd_same, by rw [List.length_append, lv]; rfl, fun x hx => ?_⟩
    have up : ∀ {x : V}, WV p H2 x → WV p (upd H2 D (.lst (vs ++ [.str y]))) x := fun {x} h => by
      obtain ⟨h, np⟩ := h
      refine ⟨?_, np⟩
      cases x with
      | ref a =>
        by_cases e : a = D
        · rw [e]
          exact .inl ⟨_, upd_same⟩
        · rcases h with ⟨xs, h⟩ | ⟨xs, h⟩ | ⟨xs, h⟩
          · exact .inl ⟨xs, by rw [upd_ne e]; exact h⟩
          · exact .inr (.inl ⟨xs, by rw [upd_ne e]; exact h⟩)
          · exact .inr (.inr ⟨xs, by rw [upd_ne e]; exact h⟩)
      | _ => exact h
    rcases List.mem_append.mp hx with hx | hx
    · exact up ((av x hx).dr d10)
    · rw [List.mem_singleton.mp hx]
      exact wv_str (ay.mono (by decide))
  rintro H9 ⟨_, d9, vs1, gv1, lv1, av1⟩
  have d09 := d08.trans d9
  refine ⟨6, rfl, by decide, by decide, fun D2 hD2 => ?_⟩
  have nDp2 := d09.2.ne hD2
  have gv1' := gv1
  refine lc_range (lo := 0) (n := 6) (fun i H' => i ≤ 6 ∧ Dr p (888000 - 20 * i) H9 H' ∧ ∃ vs : List V, H' D2 = some (.lst vs) ∧ vs.length = i ∧ ∀ x ∈ vs, WV p H' x) ⟨Nat.zero_le _, (Dr.start d09.2 (by omega)).new hD2, [], upd_same, rfl, fun _ h => by cases h⟩ ?_ ?_
  · rintro i H' hi ⟨_, d10, vs, gv, lv, av⟩
    refine ⟨rfl, ?_⟩
    refine ⟨_, rfl, _, rfl, p, 888000 - 20 * (i + 1), z, rfl, d10.2.mono (by omega), few, fun y H2 d11 ay => ?_⟩
    refine ⟨vs, d11.st nDp2 gv, by rw [lv]; exact Nat.lt_of_le_of_lt (show i ≤ 1000 by omega) (by decide), hi, (d10.trans d11).mut hD2 nDp2, vs ++ [y], upd_same, by rw [List.length_append, lv]; rfl, fun x hx => ?_⟩
    have up : ∀ {x : V}, WV p H2 x → WV p (upd H2 D2 (.lst (vs ++ [y]))) x := fun {x} h => by
      obtain ⟨h, np⟩ := h
      refine ⟨?_, np⟩
      cases x with
      | ref a =>
        by_cases e : a = D2
        · rw [e]
          exact .inl ⟨_, upd_same⟩
        · rcases h with ⟨xs, h⟩ | ⟨xs, h⟩ | ⟨xs, h⟩
          · exact .inl ⟨xs, by rw [upd_ne e]; exact h⟩
          · exact .inr (.inl ⟨xs, by rw [upd_ne e]; exact h⟩)
          · exact .inr (.inr ⟨xs, by rw [upd_ne e]; exact h⟩)
      | _ => exact h
    rcases List.mem_append.mp hx with hx | hx
    · exact up ((av x hx).dr d11)
    · rw [List.mem_singleton.mp hx]
      exact up ay
  rintro H10 ⟨_, d10, vs2, gv2, lv2, av2⟩
  have d010 := d09.trans d10
  refine ⟨D, D2, vs1, vs2, rfl, rfl, d10.st nDp gv1, gv2, wide (by omega), fun S1 hS1 => ?_⟩
  have s11 := same_new (o := .lst (vs1 ++ vs2)) hS1
  have gS1 : (upd H10 S1 (.lst (vs1 ++ vs2))) S1 = some (.lst (vs1 ++ vs2)) := upd_same
  have A1 : ∀ x ∈ vs1 ++ vs2, WV p (upd H10 S1 (.lst (vs1 ++ vs2))) x := fun x hx => by
    rcases List.mem_append.mp hx with hx | hx
    · exact ((av1 x hx).dr d10).same s11
    · exact (av2 x hx).same s11
  have l12 : (vs1 ++ vs2).length = 22 := by rw [List.length_append, lv1, lv2]
  have d11 := d010.sm9 s11
  have nS1 := d010.2.ne hS1
  obtain ⟨ws, hws⟩ : ∃ ws, ws = vs1 ++ vs2 := ⟨_, rfl⟩
  rw [← hws] at gS1 A1 l12 d11 ⊢
  generalize upd H10 S1 (.lst ws) = H11 at *
  have zl := few.asc.len
  have an : Asc 1 ("\n" : Str) := (asc_c (by decide +kernel)).mono (by decide +kernel)
  refine ⟨_, rfl, _, rfl, z, "\n", rfl, rfl, wide (by show z.length + 1 ≤ 1000; omega), _, rfl, _, rfl, _, rfl, z, rfl, wide (by omega), wide (show 9 ≤ 1000 by decide), fun l2 hl2 => ?_⟩
  obtain ⟨us, hus⟩ : ∃ us : List V, us = [.str "", .str "script", .str "script\n", .str "\nscript", .str " script", .str "Script\nx = one", .str "script \nx = one", .str (z ++ "\n"), .str (cutS z none (some (-1)))] := ⟨_, rfl⟩
  have lus : us.length = 9 := by
    rw [hus]
    rfl
  have aus : ∀ {HH : Hp}, ∀ x ∈ us, WV p HH x := by
    intro HH x hx
    rw [hus] at hx
    simp only [List.mem_cons, List.mem_nil_iff, or_false] at hx
    rcases hx with rfl | rfl | rfl | rfl | rfl | rfl | rfl | rfl | rfl
    · exact wv_c (by decide +kernel)
    · exact wv_c (by decide +kernel)
    · exact wv_c (by decide +kernel)
    · exact wv_c (by decide +kernel)
    · exact wv_c (by decide +kernel)
    · exact wv_c (by decide +kernel)
    · exact wv_c (by decide +kernel)
    · exact wv_str ((few.asc.app an).mono (by decide))
    · exact wv_str ((few.asc.cut _ _).mono (by decide))
  have s12 := same_new (o := .lst [.str "", .str "script", .str "script\n", .str "\nscript", .str " script", .str "Script\nx = one", .str "script \nx = one", .str (z ++ "\n"), .str (cutS z none (some (-1)))]) hl2
  have gl2 : (upd H11 l2 (.lst [.str "", .str "script", .str "script\n", .str "\nscript", .str " script", .str "Script\nx = one", .str "script \nx = one", .str (z ++ "\n"), .str (cutS z none (some (-1)))])) l2 = some (.lst us) := by
    rw [hus]
    exact upd_same
  have gS1' := s12 _ _ gS1
  have d12 := d11.sm9 s12
  have A1 : ∀ x ∈ ws, WV p _ x := fun x hx => (A1 x hx).same s12
  refine ⟨S1, l2, ws, us, rfl, rfl, gS1', gl2, wide (by omega), fun S2 hS2 => ?_⟩
  generalize upd H11 l2 (.lst [.str "", .str "script", .str "script\n", .str "\nscript", .str " script", .str "Script\nx = one", .str "script \nx = one", .str (z ++ "\n"), .str (cutS z none (some (-1)))]) = H12 at *
  have nS2 := d12.2.ne hS2
  have s13 := same_new (o := .lst (ws ++ us)) hS2
  have gS2 : (upd H12 S2 (.lst (ws ++ us))) S2 = some (.lst (ws ++ us)) := upd_same
  have d13 := d12.sm9 s13
  have A2 : ∀ x ∈ ws ++ us, WV p (upd H12 S2 (.lst (ws ++ us))) x := fun x hx => (List.mem_append.mp hx).elim (fun h => (A1 x h).same s13) (aus x)
  have l31 : (ws ++ us).length = 31 := by rw [List.length_append, l12, lus]
  obtain ⟨xs2, hxs2⟩ : ∃ x, x = ws ++ us := ⟨_, rfl⟩
  rw [← hxs2] at gS2 A2 l31 d13 s13 ⊢
  generalize upd H12 S2 (.lst xs2) = H13 at *
  refine ⟨_, rfl, _, rfl, p, 880000, rfl, d13.2.mono (by decide), fun v1 H14 d14 w1 => ?_⟩
  refine ⟨_, rfl, p, 870000, rfl, d14.2.mono (by decide), fun v2 H15 d15 w2 => ?_⟩
  refine ⟨_, rfl, wide (show 1 ≤ 1000 by decide), fun b1 n1' => ?_⟩
  have s16 := same_new (o := .lst [.str z]) n1'
  have d1315 := d14.trans d15
  have nb1 := (d13.trans d1315).2.ne n1'
  refine ⟨_, rfl, wide (show 1 ≤ 1000 by decide), fun b2 n2' => ?_⟩
  have s17 := s16.trans (same_new (o := .tup [.str z]) n2')
  have nb2 := ((d13.trans d1315).2.same s16).ne n2'
  have g1 : (upd (upd H15 b1 (.lst [.str z])) b2 (.tup [.str z])) b1 = some (.lst [.str z]) := same_new n2' _ _ upd_same
  have g2 : (upd (upd H15 b1 (.lst [.str z])) b2 (.tup [.str z])) b2 = some (.tup [.str z]) := upd_same
  have W1 := (w1.dr d15).same s17
  have W2 := w2.same s17
  have A3 : ∀ x ∈ xs2, WV p _ x := fun x hx => ((A2 x hx).dr d1315).same s17
  have gS3 := s17 _ _ (d1315.st nS2 gS2)
  have d17 := (d13.trans d1315).sm9 s17
  generalize upd (upd H15 b1 (.lst [.str z])) b2 (.tup [.str z]) = H17 at *
  obtain ⟨os, hos⟩ : ∃ os : List V, os = [v1, v2, .ref b1, .ref b2, .non, .bl true, .int 0] := ⟨_, rfl⟩
  have aos : ∀ x ∈ os, WV p H17 x := fun x hx => by
    rw [hos] at hx
    simp only [List.mem_cons, List.mem_nil_iff, or_false] at hx
    rcases hx with rfl | rfl | rfl | rfl | rfl | rfl | rfl
    · exact W1
    · exact W2
    · exact wv_lst g1 nb1
    · exact wv_tup g2 nb2
    · exact wv_non
    · exact wv_bl _
    · exact wv_int _
  refine ⟨wide (show 7 ≤ 1000 by decide), fun l3 hl3 => ?_⟩
  rw [← hos]
  have los : os.length = 7 := by
    rw [hos]
    rfl
  have s18 := same_new (o := .lst os) hl3
  refine ⟨S2, l3, xs2, os, rfl, rfl, s18 _ _ gS3, upd_same, wide (by omega), fun F hF => ?_⟩
  have s19 := s18.trans (same_new (o := .lst (xs2 ++ os)) hF)
  have gF : (upd (upd H17 l3 (.lst os)) F (.lst (xs2 ++ os))) F = some (.lst (xs2 ++ os)) := upd_same
  have AF : ∀ x ∈ xs2 ++ os, WV p (upd (upd H17 l3 (.lst os)) F (.lst (xs2 ++ os))) x := fun x hx => (List.mem_append.mp hx).elim (fun h => (A3 x h).same s19) fun h => (aos x h).same s19
  have d19 := d17.sm9 s19
  have nF := (d17.2.same s18).ne hF
  obtain ⟨fs, hfs⟩ : ∃ x, x = xs2 ++ os := ⟨_, rfl⟩
  rw [← hfs] at gF AF d19 s19 ⊢
  generalize upd (upd H17 l3 (.lst os)) F (.lst fs) = H19 at *
  have kF : Kp p H H19 := d19.1
  have hT9 : Tabs (TT1 Pt) H19 := tabs_kp hT hP.lst kF
  refine ⟨F, rfl, ⟨_, SqL.of gF⟩, ?_⟩
  refine for_list (K := K) (a := F) (xs := fs) (fun i σ H' => ∃ (u5 u6 u7 u8 : Option V) (S : Addr), σ = [some (.ref p), some (.ref bd), some (.ref lp), some (.str z), some (.ref S), u5, u6, u7, u8] ∧ ExtN H19 H' ∧ Tabs (TT1 Pt) H') ⟨_, _, _, _, _, rfl, ExtN.of (Same.refl _), hT9⟩ (fun i σ H' _ ⟨_, _, _, _, _, _, e, _⟩ => SqL.extN (SqL.of gF) e) ?_ ?_
  · rintro i v σ H' hv ⟨u5, u6, u7, u8, S, rfl, e', t'⟩
    have hv := (AF v (List.mem_of_getElem? hv)).extN e'
    refine ⟨_, rfl, v, rfl, hv.near, fun H20 s20 => ?_⟩
    refine ⟨t'.ext s20, fun H21 e21 t21 => fun H22 s22 => ?_⟩
    have x22 : ExtN H19 H22 := ((e'.trans (ExtN.of s20)).trans e21).trans (ExtN.of s22)
    have hv22 : NearV H22 v := ((NearV.same s20 hv.near).extN e21).same s22
    have tb22 := t21.ext s22
    refine ⟨_, rfl, fun x dx hx hdx hne => ?_⟩
    have hv23 : NearV (upd (upd H22 dx (.own x)) x (.ins T.c_Script dx [])) v := hv22.same (made_same hx hdx hne)
    refine ⟨x, dx, v, H22, rfl, made_same hx hdx hne, hx, upd_same, hv23, fun n hn d H' s' hd => ?_, fun z' lns' ev en H' s' sc => ?_⟩
    · -- refused
      refine ⟨true, XT.te, fun _ a ha t ht => ?_, fun z => by cases z⟩
      have sE := same_new (o := OGX.ExV (.ref T.c_BadScript) (some d) a) ha
      have sT := same_new (o := .tup [.ref a, .non]) ht
      have hA : (upd (upd H' a (OGX.ExV (.ref T.c_BadScript) (some d) a)) t (.tup [.ref a, .non])) a = some (OGX.ExV (.ref T.c_BadScript) (some d) a) := sT _ _ upd_same
      have hD : (upd (upd H' a (OGX.ExV (.ref T.c_BadScript) (some d) a)) t (.tup [.ref a, .non])) d = some (.xd [("value", .int (n : Int))]) := sT _ _ (sE _ _ hd)
      have hTt : (upd (upd H' a (OGX.ExV (.ref T.c_BadScript) (some d) a)) t (.tup [.ref a, .non])) t = some (.tup [.ref a, .non]) := upd_same
      have sF := (((made_same (C := T.c_Script) hx hdx hne).trans s').trans sE).trans sT
      generalize upd (upd H' a (OGX.ExV (.ref T.c_BadScript) (some d) a)) t (.tup [.ref a, .non]) = H23 at *
      refine ⟨t, _, 0, .ref a, rfl, rfl, SqT.of hTt, rfl, ?_⟩
      refine ⟨_, _, rfl, ?_⟩
      rw [hn]
      have n5 := valR_lt hv22 hn
      have dk := dok_int (i := (n : Int)) (by omega) (by omega)
      refine ⟨_, rfl, rfl, _, rfl, ?_⟩
      refine iteF' (by simp [wV]) ?_
      refine iteF ?_
      refine ⟨_, rfl, rfl, _, rfl, ?_⟩
      refine iteT' (by simp [wV]) ?_
      refine ⟨_, rfl, a, T.c_BadScript, d, _, .ref T.c_BadScript, .ref T.c_BadScript, true, rfl, hA, hD, XT.ec, fun u r => r, XT.kt, ?_⟩
      refine ⟨_, rfl, ?_⟩
      refine iteF' (by simp) ?_
      have sh : ∀ {HH : Hp}, OGX.ShD K HH (.int (n : Int)) (.int (n : Int)) := .inl ⟨.int _, dk.nd⟩
      have dp : (PyData.int (n : Int)).depth ≤ 60 := Nat.le_trans dk.dp (by decide)
      have ln : (PyData.int (n : Int)).shown.length ≤ sizeLine := Nat.le_trans dk.ln (by decide)
      refine ⟨_, rfl, T.c_BadScript, a, d, _, .int (n : Int), rfl, hA, hD, XT.xf, XT.noV, rfl, .int (n : Int), .int (n : Int), rfl, sh, dk.sh, dp, ln, _, rfl, .int (n : Int), .int (n : Int), rfl, sh, dk.sh, dp, ln, rfl, _, rfl, ?_⟩
      refine iteF' (by simp) ?_
      exact ⟨_, _, _, _, _, rfl, x22.trans (ExtN.of sF), tb22.ext sF⟩
    · -- made
      subst ev
      refine ⟨rfl, fun t ht => ?_⟩
      have sT := same_new (o := .tup [.non, .ref x]) ht
      have hTt : (upd H' t (.tup [.non, .ref x])) t = some (.tup [.non, .ref x]) := upd_same
      have sF := s'.trans sT
      generalize upd H' t (.tup [.non, .ref x]) = H23 at *
      refine ⟨t, _, 0, .non, rfl, rfl, SqT.of hTt, rfl, ?_⟩
      refine ⟨_, _, rfl, ?_⟩
      have ew : wV (valR (.str z')) = .non := by
        show wV (textR z') = .non
        rw [en]
        rfl
      rw [ew]
      refine ⟨_, rfl, rfl, _, rfl, ?_⟩
      refine iteT' (by simp) ?_
      refine ⟨_, rfl, rfl, _, rfl, ?_⟩
      refine iteF' (by simp) ?_
      refine ⟨_, rfl, rfl, _, rfl, ?_⟩
      refine iteF' (by simp) ?_
      refine iteF ?_
      exact ⟨_, _, _, _, _, rfl, x22.trans (ExtN.of sF), tb22.ext sF⟩
  · rintro σ H' ⟨u5, u6, u7, u8, S, rfl, e', t'⟩
    exact q H' (fun b o nb e nt => e' _ _ (kF _ _ nb e) nt) t'
end
end OG
set_option Elab.async false
set_option linter.all false
set_option maxRecDepth 100000
set_option maxHeartbeats 8000000
namespace OG
open PySem PySem.Spec PyProof.Rows L2 LamX
section
variable {P : Program} {w : World} {K : PySem.W.Frag} {mg : Str → Option Value} {base : Heap}
def spLaw10 (K : PySem.W.Frag) (Pt : Addr) : Sp := fun vs H Q _ => ∃ (a : Addr) (ns : List Int), vs = [.ref a] ∧ SqL K H a (ns.map V.int) ∧ ns.length ≤ 63 ∧ (∀ z ∈ ns, Builtin.Int.intBits z ≤ 1048576) ∧ Tabs (TT1 Pt) H ∧ ∀ H', Q (.bl true) H'
theorem ok_law (T : Txt K mg) (XT : TxtX K mg T) {c Pt : Addr} (J : JAt K mg T c) (TB : TabB base mg c Pt) : OGX.FnG P w K mg base 14 T.f_law T.fd_law ["script"] (spLaw10 K Pt) := by
  refine OGX.okG T.F_law sc_law (fun vs H Q E h => ?_) (fun cdv A outer s H vs Q E hG hr h => ?_)
  · obtain ⟨a, ns, rfl, _⟩ := h
    rfl
  · obtain ⟨a, ns, rfl, hS, hl, hb, hT, q⟩ := h
    refine ⟨_, (pss_one (ps_ret (pe_callB (cr_all rfl) (by rfl) T.n_all (by decide +kernel) (pa_cons (pe_lc (own := [("place", 1)]) (g := gName 1) (by rfl) sc_law.nd (pi_list (pe_call (ok_l_cells T) (hr.mono (by decide)) (by rfl) T.g_l_cells T.F_l_cells.kp T.b_l_cells .nil pass0 (pa_cons (pv 0) (pa_cons pe_int pa_nil)))) (blkOk_by (own := [("place", 1)]) (by rfl)) (fun _ _ _ _ _ => (pg_name (i := 1) sc_law.nd rfl (Or.inl rfl))) (fun _ _ _ _ _ => pts_nil) (fun _ _ _ _ _ => (OGX.pe_callG (ok_l_right T XT J TB) hG (hr.mono (by decide)) (by rfl) T.g_l_right T.F_l_right.kp T.b_l_right (pa_cons (pe_call (ok_l_pot T) (hr.mono (by decide)) (by rfl) T.g_l_pot T.F_l_pot.kp T.b_l_pot .nil pass0 (pa_cons (pv 0) (pa_cons (pv 1) pa_nil))) pa_nil)))) pa_nil)))), ?_⟩
    refine ⟨.ref a, rfl, a, ns, rfl, hS, hl, fun qc c H1 s1 hc gq => ?_⟩
    refine ⟨qc, rfl, ⟨_, SqL.of gq⟩, fun D hD => ?_⟩
    have nq : qc ≠ D := ne_of_none gq hD
    have ext : ∀ {H1 H2 : Hp} {b : Addr} {xs : List V}, ExtN H1 H2 → H1 b = some (.lst xs) → H2 b = some (.lst xs) := fun e h => e _ _ h fun _ z => by cases z
    refine lc_list (K := K) (a := qc) (xs := (List.range c).map fun (n : Nat) => V.int (n : Int)) (fun i H' => ExtN H1 H' ∧ H' D = some (.lst ((List.replicate i true).map V.bl)) ∧ Tabs (TT1 Pt) H')
      ⟨ExtN.of (same_new hD), upd_same, (hT.ext s1).ext (same_new hD)⟩ (fun i H' _ ⟨s, _⟩ => SqL.of (ext s gq)) ?_ ?_
    · rintro i u H' hu ⟨s, g3, t3⟩
      obtain ⟨hi, rfl⟩ := range_at hu
      refine ⟨rfl, ?_⟩
      refine ⟨.ref a, rfl, .int (i : Int), rfl, a, ns, i, rfl, by omega, SqL.extN hS ((ExtN.of s1).trans s), hl, hb, fun pp H2 s2 np hP => ?_⟩
      refine ⟨pp, rfl, hP, t3.ext s2, fun H3 k3 t4 => ?_⟩
      have k : ∀ {b : Addr} {o : HO}, H' b = some o → (∀ ps, o ≠ .tbl ps) → H3 b = some o := fun {b o} e n => k3 b o (ne_of_none e np) (s2 _ _ e) n
      have g5 := k g3 fun _ z => by cases z
      refine ⟨_, g5, by rw [List.length_map, List.length_replicate]; exact small1000 (by omega), fun b o e n => ?_, ?_, ?_⟩
      · rw [upd_ne (ne_of_none e hD)]
        exact k (s _ _ e n) n
      · rw [upd_same, List.replicate_succ', List.map_append]
        rfl
      · exact tabs_kp t4 ⟨_, g5⟩ kp_self
    · rintro H' ⟨s, g3, _⟩
      refine ⟨D, _, rfl, SqL.of g3, ?_⟩
      rw [all_true]
      exact q H'
end
end OG
set_option Elab.async false
set_option linter.all false
set_option maxRecDepth 100000
set_option maxHeartbeats 0
namespace OG
open PySem PySem.Spec PyProof.Rows L2 LamX
theorem kit_ref {K : PySem.W.Frag} {C D : Addr} {b : Bool} (n : C ≠ D) (h1 : PySem.W.isClsIn K D = true) (h2 : PySem.W.typeIn K (.ref D) = some (.type "type")) (h3 : PySem.W.subIn K (.ref C) (.ref D) = some b) : PySem.W.kitOne K (.ref C) (.ref D) = some b := by
  unfold PySem.W.kitOne
  rw [if_neg (by simp [n])]
  show (if ((PySem.W.clsIn K D).isSome && PySem.W.typeIn K (.ref D) == some (.type "type")) = true then PySem.W.subIn K (.ref C) (.ref D) else none) = some b
  rw [show (PySem.W.clsIn K D).isSome = true from h1, h2, if_pos (by simp), h3]
theorem all_mk {l : PySem.W.OpenLaw} {w : World} {K : PySem.W.Frag} {h : Heap} {mg : Str → Option Value} {fa P1 : Addr} (X : K.In h) (G : h.Ns mainGlobals mg) (hfa : mg "law" = some (.ref fa))
    (hP1 : h.get? P1 = some { cls := .none, data := .fields #[] })
    {c_BadScript c_GateError c_Script aP cJ1 NnBadScript f_GateError_init f_integer_of f_is_letters f_is_line_name f_gate_of f_factor_of f_is_of f_read_line f_read_form f_read_gates f_read_one f_read_road f_read_product f_read_close f_read_turn f_read_add f_ascending f_Script_init f_read_script f_l_pot f_l_take f_l_of f_l_some f_l_cells f_l_heard f_l_num f_l_book_names f_l_script_line_gates f_l_script_gates f_l_script_factor_text f_l_script_line_text f_l_script_text f_l_script_is_word f_l_script_is_name f_l_script_integer f_l_script_factor f_l_script_gate f_l_script_parts f_l_script_name f_l_script_factor_drawn f_l_script_simple f_l_script_some f_l_script_try f_l_script_size f_l_script_drawn f_l_around_line f_l_odd f_l_bent_line f_l_bent_text f_l_wrong f_l_rests f_l_heads f_l_more_text f_l_right f_law : Addr}
    {dP ddBadScript od_GateError_init od_integer_of od_is_letters od_is_line_name od_gate_of od_factor_of od_is_of od_read_line od_read_form od_read_gates od_read_one od_read_road od_read_product od_read_close od_read_turn od_read_add od_ascending od_Script_init od_read_script od_l_pot od_l_take od_l_of od_l_some od_l_cells od_l_heard od_l_num od_l_book_names od_l_script_line_gates od_l_script_gates od_l_script_factor_text od_l_script_line_text od_l_script_text od_l_script_is_word od_l_script_is_name od_l_script_integer od_l_script_factor od_l_script_gate od_l_script_parts od_l_script_name od_l_script_factor_drawn od_l_script_simple od_l_script_some od_l_script_try od_l_script_size od_l_script_drawn od_l_around_line od_l_odd od_l_bent_line od_l_bent_text od_l_wrong od_l_rests od_l_heads od_l_more_text od_l_right od_law an_GateError_init an_integer_of an_is_letters an_is_line_name an_gate_of an_factor_of an_is_of an_read_line an_read_form an_read_gates an_read_one an_read_road an_read_product an_read_close an_read_turn an_read_add an_ascending an_Script_init an_read_script an_l_pot an_l_take an_l_of an_l_some an_l_cells an_l_heard an_l_num an_l_book_names an_l_script_line_gates an_l_script_gates an_l_script_factor_text an_l_script_line_text an_l_script_text an_l_script_is_word an_l_script_is_name an_l_script_integer an_l_script_factor an_l_script_gate an_l_script_parts an_l_script_name an_l_script_factor_drawn an_l_script_simple an_l_script_some an_l_script_try an_l_script_size an_l_script_drawn an_l_around_line an_l_odd an_l_bent_line an_l_bent_text an_l_wrong an_l_rests an_l_heads an_l_more_text an_l_right an_law : Option Addr}
    {slP sl_GateError_init sl_integer_of sl_is_letters sl_is_line_name sl_gate_of sl_factor_of sl_is_of sl_read_line sl_read_form sl_read_gates sl_read_one sl_read_road sl_read_product sl_read_close sl_read_turn sl_read_add sl_ascending sl_Script_init sl_read_script sl_l_pot sl_l_take sl_l_of sl_l_some sl_l_cells sl_l_heard sl_l_num sl_l_book_names sl_l_script_line_gates sl_l_script_gates sl_l_script_factor_text sl_l_script_line_text sl_l_script_text sl_l_script_is_word sl_l_script_is_name sl_l_script_integer sl_l_script_factor sl_l_script_gate sl_l_script_parts sl_l_script_name sl_l_script_factor_drawn sl_l_script_simple sl_l_script_some sl_l_script_try sl_l_script_size sl_l_script_drawn sl_l_around_line sl_l_odd sl_l_bent_line sl_l_bent_text sl_l_wrong sl_l_rests sl_l_heads sl_l_more_text sl_l_right sl_law : Array (Option Value)}
    {oc_GateError_init kV_GateError_init dc_GateError_init pm_GateError_init ct_GateError_init cd_GateError_init oc_integer_of kV_integer_of dc_integer_of pm_integer_of ct_integer_of cd_integer_of oc_is_letters kV_is_letters dc_is_letters pm_is_letters ct_is_letters cd_is_letters oc_is_line_name kV_is_line_name dc_is_line_name pm_is_line_name ct_is_line_name cd_is_line_name oc_gate_of kV_gate_of dc_gate_of pm_gate_of ct_gate_of cd_gate_of oc_factor_of kV_factor_of dc_factor_of pm_factor_of ct_factor_of cd_factor_of oc_is_of kV_is_of dc_is_of pm_is_of ct_is_of cd_is_of oc_read_line kV_read_line dc_read_line pm_read_line ct_read_line cd_read_line oc_read_form kV_read_form dc_read_form pm_read_form ct_read_form cd_read_form oc_read_gates kV_read_gates dc_read_gates pm_read_gates ct_read_gates cd_read_gates oc_read_one kV_read_one dc_read_one pm_read_one ct_read_one cd_read_one oc_read_road kV_read_road dc_read_road pm_read_road ct_read_road cd_read_road oc_read_product kV_read_product dc_read_product pm_read_product ct_read_product cd_read_product oc_read_close kV_read_close dc_read_close pm_read_close ct_read_close cd_read_close oc_read_turn kV_read_turn dc_read_turn pm_read_turn ct_read_turn cd_read_turn oc_read_add kV_read_add dc_read_add pm_read_add ct_read_add cd_read_add oc_ascending kV_ascending dc_ascending pm_ascending ct_ascending cd_ascending oc_Script_init kV_Script_init dc_Script_init pm_Script_init ct_Script_init cd_Script_init oc_read_script kV_read_script dc_read_script pm_read_script ct_read_script cd_read_script oc_l_pot kV_l_pot dc_l_pot pm_l_pot ct_l_pot cd_l_pot oc_l_take kV_l_take dc_l_take pm_l_take ct_l_take cd_l_take oc_l_of kV_l_of dc_l_of pm_l_of ct_l_of cd_l_of oc_l_some kV_l_some dc_l_some pm_l_some ct_l_some cd_l_some oc_l_cells kV_l_cells dc_l_cells pm_l_cells ct_l_cells cd_l_cells oc_l_heard kV_l_heard dc_l_heard pm_l_heard ct_l_heard cd_l_heard oc_l_num kV_l_num dc_l_num pm_l_num ct_l_num cd_l_num oc_l_book_names kV_l_book_names dc_l_book_names pm_l_book_names ct_l_book_names cd_l_book_names oc_l_script_line_gates kV_l_script_line_gates dc_l_script_line_gates pm_l_script_line_gates ct_l_script_line_gates cd_l_script_line_gates oc_l_script_gates kV_l_script_gates dc_l_script_gates pm_l_script_gates ct_l_script_gates cd_l_script_gates oc_l_script_factor_text kV_l_script_factor_text dc_l_script_factor_text pm_l_script_factor_text ct_l_script_factor_text cd_l_script_factor_text oc_l_script_line_text kV_l_script_line_text dc_l_script_line_text pm_l_script_line_text ct_l_script_line_text cd_l_script_line_text oc_l_script_text kV_l_script_text dc_l_script_text pm_l_script_text ct_l_script_text cd_l_script_text oc_l_script_is_word kV_l_script_is_word dc_l_script_is_word pm_l_script_is_word ct_l_script_is_word cd_l_script_is_word oc_l_script_is_name kV_l_script_is_name dc_l_script_is_name pm_l_script_is_name ct_l_script_is_name cd_l_script_is_name oc_l_script_integer kV_l_script_integer dc_l_script_integer pm_l_script_integer ct_l_script_integer cd_l_script_integer oc_l_script_factor kV_l_script_factor dc_l_script_factor pm_l_script_factor ct_l_script_factor cd_l_script_factor oc_l_script_gate kV_l_script_gate dc_l_script_gate pm_l_script_gate ct_l_script_gate cd_l_script_gate oc_l_script_parts kV_l_script_parts dc_l_script_parts pm_l_script_parts ct_l_script_parts cd_l_script_parts oc_l_script_name kV_l_script_name dc_l_script_name pm_l_script_name ct_l_script_name cd_l_script_name oc_l_script_factor_drawn kV_l_script_factor_drawn dc_l_script_factor_drawn pm_l_script_factor_drawn ct_l_script_factor_drawn cd_l_script_factor_drawn oc_l_script_simple kV_l_script_simple dc_l_script_simple pm_l_script_simple ct_l_script_simple cd_l_script_simple oc_l_script_some kV_l_script_some dc_l_script_some pm_l_script_some ct_l_script_some cd_l_script_some oc_l_script_try kV_l_script_try dc_l_script_try pm_l_script_try ct_l_script_try cd_l_script_try oc_l_script_size kV_l_script_size dc_l_script_size pm_l_script_size ct_l_script_size cd_l_script_size oc_l_script_drawn kV_l_script_drawn dc_l_script_drawn pm_l_script_drawn ct_l_script_drawn cd_l_script_drawn oc_l_around_line kV_l_around_line dc_l_around_line pm_l_around_line ct_l_around_line cd_l_around_line oc_l_odd kV_l_odd dc_l_odd pm_l_odd ct_l_odd cd_l_odd oc_l_bent_line kV_l_bent_line dc_l_bent_line pm_l_bent_line ct_l_bent_line cd_l_bent_line oc_l_bent_text kV_l_bent_text dc_l_bent_text pm_l_bent_text ct_l_bent_text cd_l_bent_text oc_l_wrong kV_l_wrong dc_l_wrong pm_l_wrong ct_l_wrong cd_l_wrong oc_l_rests kV_l_rests dc_l_rests pm_l_rests ct_l_rests cd_l_rests oc_l_heads kV_l_heads dc_l_heads pm_l_heads ct_l_heads cd_l_heads oc_l_more_text kV_l_more_text dc_l_more_text pm_l_more_text ct_l_more_text cd_l_more_text oc_l_right kV_l_right dc_l_right pm_l_right ct_l_right oc_law kV_law dc_law pm_law ct_law cd_law : Value}
    {t_LETTERS t_FIGURES t_MOST_FIGURES : Tok} {uP : Array Value} {nP : Nat}
    {nmBadScript qnBadScript : Str} {bsBadScript : List Value} {snBadScript : List Str} {subBadScript : List Value} {abBadScript : Bool} {colBadScript : Option Bool} {x0BadScript x1BadScript x2BadScript x3BadScript x5BadScript : Option Value}
    (a_BadScript : PySem.W.nsIn K mainGlobals "BadScript" = some (some (.ref c_BadScript)))
    (a_GateError : PySem.W.nsIn K mainGlobals "GateError" = some (some (.ref c_GateError)))
    (a_Script : PySem.W.nsIn K mainGlobals "Script" = some (some (.ref c_Script)))
    (a_GateError_init : PySem.W.findIn K (.ref c_GateError) "__init__" = some (some (.ref f_GateError_init)))
    (l_GateError_init : K.lookup f_GateError_init = some ⟨oc_GateError_init, od_GateError_init, .func (PySem.W.fnOf "__init__" "GateError.__init__" (defArgs s_GateError_init) (defBody s_GateError_init) (defScope s_GateError_init) .none kV_GateError_init dc_GateError_init pm_GateError_init an_GateError_init cd_GateError_init ct_GateError_init), sl_GateError_init⟩)
    (c_GateError_init : PySem.W.codeIn K cd_GateError_init "GateError.__init__" = true)
    (k_GateError_init : PySem.W.keepIn K (.ref f_GateError_init) = true)
    (a_integer_of : PySem.W.nsIn K mainGlobals "integer_of" = some (some (.ref f_integer_of)))
    (l_integer_of : K.lookup f_integer_of = some ⟨oc_integer_of, od_integer_of, .func (PySem.W.fnOf "integer_of" "integer_of" (defArgs s_integer_of) (defBody s_integer_of) (defScope s_integer_of) .none kV_integer_of dc_integer_of pm_integer_of an_integer_of cd_integer_of ct_integer_of), sl_integer_of⟩)
    (c_integer_of : PySem.W.codeIn K cd_integer_of "integer_of" = true)
    (k_integer_of : PySem.W.keepIn K (.ref f_integer_of) = true)
    (a_is_letters : PySem.W.nsIn K mainGlobals "is_letters" = some (some (.ref f_is_letters)))
    (l_is_letters : K.lookup f_is_letters = some ⟨oc_is_letters, od_is_letters, .func (PySem.W.fnOf "is_letters" "is_letters" (defArgs s_is_letters) (defBody s_is_letters) (defScope s_is_letters) .none kV_is_letters dc_is_letters pm_is_letters an_is_letters cd_is_letters ct_is_letters), sl_is_letters⟩)
    (c_is_letters : PySem.W.codeIn K cd_is_letters "is_letters" = true)
    (k_is_letters : PySem.W.keepIn K (.ref f_is_letters) = true)
    (a_is_line_name : PySem.W.nsIn K mainGlobals "is_line_name" = some (some (.ref f_is_line_name)))
    (l_is_line_name : K.lookup f_is_line_name = some ⟨oc_is_line_name, od_is_line_name, .func (PySem.W.fnOf "is_line_name" "is_line_name" (defArgs s_is_line_name) (defBody s_is_line_name) (defScope s_is_line_name) .none kV_is_line_name dc_is_line_name pm_is_line_name an_is_line_name cd_is_line_name ct_is_line_name), sl_is_line_name⟩)
    (c_is_line_name : PySem.W.codeIn K cd_is_line_name "is_line_name" = true)
    (k_is_line_name : PySem.W.keepIn K (.ref f_is_line_name) = true)
    (a_gate_of : PySem.W.nsIn K mainGlobals "gate_of" = some (some (.ref f_gate_of)))
    (l_gate_of : K.lookup f_gate_of = some ⟨oc_gate_of, od_gate_of, .func (PySem.W.fnOf "gate_of" "gate_of" (defArgs s_gate_of) (defBody s_gate_of) (defScope s_gate_of) .none kV_gate_of dc_gate_of pm_gate_of an_gate_of cd_gate_of ct_gate_of), sl_gate_of⟩)
    (c_gate_of : PySem.W.codeIn K cd_gate_of "gate_of" = true)
    (k_gate_of : PySem.W.keepIn K (.ref f_gate_of) = true)
    (a_factor_of : PySem.W.nsIn K mainGlobals "factor_of" = some (some (.ref f_factor_of)))
    (l_factor_of : K.lookup f_factor_of = some ⟨oc_factor_of, od_factor_of, .func (PySem.W.fnOf "factor_of" "factor_of" (defArgs s_factor_of) (defBody s_factor_of) (defScope s_factor_of) .none kV_factor_of dc_factor_of pm_factor_of an_factor_of cd_factor_of ct_factor_of), sl_factor_of⟩)
    (c_factor_of : PySem.W.codeIn K cd_factor_of "factor_of" = true)
    (k_factor_of : PySem.W.keepIn K (.ref f_factor_of) = true)
    (a_is_of : PySem.W.nsIn K mainGlobals "_is_of" = some (some (.ref f_is_of)))
    (l_is_of : K.lookup f_is_of = some ⟨oc_is_of, od_is_of, .func (PySem.W.fnOf "_is_of" "_is_of" (defArgs s_is_of) (defBody s_is_of) (defScope s_is_of) .none kV_is_of dc_is_of pm_is_of an_is_of cd_is_of ct_is_of), sl_is_of⟩)
    (c_is_of : PySem.W.codeIn K cd_is_of "_is_of" = true)
    (k_is_of : PySem.W.keepIn K (.ref f_is_of) = true)
    (a_read_line : PySem.W.nsIn K mainGlobals "read_line" = some (some (.ref f_read_line)))
    (l_read_line : K.lookup f_read_line = some ⟨oc_read_line, od_read_line, .func (PySem.W.fnOf "read_line" "read_line" (defArgs s_read_line) (defBody s_read_line) (defScope s_read_line) .none kV_read_line dc_read_line pm_read_line an_read_line cd_read_line ct_read_line), sl_read_line⟩)
    (c_read_line : PySem.W.codeIn K cd_read_line "read_line" = true)
    (k_read_line : PySem.W.keepIn K (.ref f_read_line) = true)
    (a_read_form : PySem.W.nsIn K mainGlobals "read_form" = some (some (.ref f_read_form)))
    (l_read_form : K.lookup f_read_form = some ⟨oc_read_form, od_read_form, .func (PySem.W.fnOf "read_form" "read_form" (defArgs s_read_form) (defBody s_read_form) (defScope s_read_form) .none kV_read_form dc_read_form pm_read_form an_read_form cd_read_form ct_read_form), sl_read_form⟩)
    (c_read_form : PySem.W.codeIn K cd_read_form "read_form" = true)
    (k_read_form : PySem.W.keepIn K (.ref f_read_form) = true)
    (a_read_gates : PySem.W.nsIn K mainGlobals "read_gates" = some (some (.ref f_read_gates)))
    (l_read_gates : K.lookup f_read_gates = some ⟨oc_read_gates, od_read_gates, .func (PySem.W.fnOf "read_gates" "read_gates" (defArgs s_read_gates) (defBody s_read_gates) (defScope s_read_gates) .none kV_read_gates dc_read_gates pm_read_gates an_read_gates cd_read_gates ct_read_gates), sl_read_gates⟩)
    (c_read_gates : PySem.W.codeIn K cd_read_gates "read_gates" = true)
    (k_read_gates : PySem.W.keepIn K (.ref f_read_gates) = true)
    (a_read_one : PySem.W.nsIn K mainGlobals "_read_one" = some (some (.ref f_read_one)))
    (l_read_one : K.lookup f_read_one = some ⟨oc_read_one, od_read_one, .func (PySem.W.fnOf "_read_one" "_read_one" (defArgs s_read_one) (defBody s_read_one) (defScope s_read_one) .none kV_read_one dc_read_one pm_read_one an_read_one cd_read_one ct_read_one), sl_read_one⟩)
    (c_read_one : PySem.W.codeIn K cd_read_one "_read_one" = true)
    (k_read_one : PySem.W.keepIn K (.ref f_read_one) = true)
    (a_read_road : PySem.W.nsIn K mainGlobals "_read_road" = some (some (.ref f_read_road)))
    (l_read_road : K.lookup f_read_road = some ⟨oc_read_road, od_read_road, .func (PySem.W.fnOf "_read_road" "_read_road" (defArgs s_read_road) (defBody s_read_road) (defScope s_read_road) .none kV_read_road dc_read_road pm_read_road an_read_road cd_read_road ct_read_road), sl_read_road⟩)
    (c_read_road : PySem.W.codeIn K cd_read_road "_read_road" = true)
    (k_read_road : PySem.W.keepIn K (.ref f_read_road) = true)
    (a_read_product : PySem.W.nsIn K mainGlobals "_read_product" = some (some (.ref f_read_product)))
    (l_read_product : K.lookup f_read_product = some ⟨oc_read_product, od_read_product, .func (PySem.W.fnOf "_read_product" "_read_product" (defArgs s_read_product) (defBody s_read_product) (defScope s_read_product) .none kV_read_product dc_read_product pm_read_product an_read_product cd_read_product ct_read_product), sl_read_product⟩)
    (c_read_product : PySem.W.codeIn K cd_read_product "_read_product" = true)
    (k_read_product : PySem.W.keepIn K (.ref f_read_product) = true)
    (a_read_close : PySem.W.nsIn K mainGlobals "_read_close" = some (some (.ref f_read_close)))
    (l_read_close : K.lookup f_read_close = some ⟨oc_read_close, od_read_close, .func (PySem.W.fnOf "_read_close" "_read_close" (defArgs s_read_close) (defBody s_read_close) (defScope s_read_close) .none kV_read_close dc_read_close pm_read_close an_read_close cd_read_close ct_read_close), sl_read_close⟩)
    (c_read_close : PySem.W.codeIn K cd_read_close "_read_close" = true)
    (k_read_close : PySem.W.keepIn K (.ref f_read_close) = true)
    (a_read_turn : PySem.W.nsIn K mainGlobals "_read_turn" = some (some (.ref f_read_turn)))
    (l_read_turn : K.lookup f_read_turn = some ⟨oc_read_turn, od_read_turn, .func (PySem.W.fnOf "_read_turn" "_read_turn" (defArgs s_read_turn) (defBody s_read_turn) (defScope s_read_turn) .none kV_read_turn dc_read_turn pm_read_turn an_read_turn cd_read_turn ct_read_turn), sl_read_turn⟩)
    (c_read_turn : PySem.W.codeIn K cd_read_turn "_read_turn" = true)
    (k_read_turn : PySem.W.keepIn K (.ref f_read_turn) = true)
    (a_read_add : PySem.W.nsIn K mainGlobals "_read_add" = some (some (.ref f_read_add)))
    (l_read_add : K.lookup f_read_add = some ⟨oc_read_add, od_read_add, .func (PySem.W.fnOf "_read_add" "_read_add" (defArgs s_read_add) (defBody s_read_add) (defScope s_read_add) .none kV_read_add dc_read_add pm_read_add an_read_add cd_read_add ct_read_add), sl_read_add⟩)
    (c_read_add : PySem.W.codeIn K cd_read_add "_read_add" = true)
    (k_read_add : PySem.W.keepIn K (.ref f_read_add) = true)
    (a_ascending : PySem.W.nsIn K mainGlobals "_ascending" = some (some (.ref f_ascending)))
    (l_ascending : K.lookup f_ascending = some ⟨oc_ascending, od_ascending, .func (PySem.W.fnOf "_ascending" "_ascending" (defArgs s_ascending) (defBody s_ascending) (defScope s_ascending) .none kV_ascending dc_ascending pm_ascending an_ascending cd_ascending ct_ascending), sl_ascending⟩)
    (c_ascending : PySem.W.codeIn K cd_ascending "_ascending" = true)
    (k_ascending : PySem.W.keepIn K (.ref f_ascending) = true)
    (a_Script_init : PySem.W.findIn K (.ref c_Script) "__init__" = some (some (.ref f_Script_init)))
    (l_Script_init : K.lookup f_Script_init = some ⟨oc_Script_init, od_Script_init, .func (PySem.W.fnOf "__init__" "Script.__init__" (defArgs s_Script_init) (defBody s_Script_init) (defScope s_Script_init) .none kV_Script_init dc_Script_init pm_Script_init an_Script_init cd_Script_init ct_Script_init), sl_Script_init⟩)
    (c_Script_init : PySem.W.codeIn K cd_Script_init "Script.__init__" = true)
    (k_Script_init : PySem.W.keepIn K (.ref f_Script_init) = true)
    (a_read_script : PySem.W.nsIn K mainGlobals "_read_script" = some (some (.ref f_read_script)))
    (l_read_script : K.lookup f_read_script = some ⟨oc_read_script, od_read_script, .func (PySem.W.fnOf "_read_script" "_read_script" (defArgs s_read_script) (defBody s_read_script) (defScope s_read_script) .none kV_read_script dc_read_script pm_read_script an_read_script cd_read_script ct_read_script), sl_read_script⟩)
    (c_read_script : PySem.W.codeIn K cd_read_script "_read_script" = true)
    (k_read_script : PySem.W.keepIn K (.ref f_read_script) = true)
    (a_l_pot : PySem.W.nsIn K mainGlobals "_law_pot" = some (some (.ref f_l_pot)))
    (l_l_pot : K.lookup f_l_pot = some ⟨oc_l_pot, od_l_pot, .func (PySem.W.fnOf "_law_pot" "_law_pot" (defArgs s_l_pot) (defBody s_l_pot) (defScope s_l_pot) .none kV_l_pot dc_l_pot pm_l_pot an_l_pot cd_l_pot ct_l_pot), sl_l_pot⟩)
    (c_l_pot : PySem.W.codeIn K cd_l_pot "_law_pot" = true)
    (k_l_pot : PySem.W.keepIn K (.ref f_l_pot) = true)
    (a_l_take : PySem.W.nsIn K mainGlobals "_law_take" = some (some (.ref f_l_take)))
    (l_l_take : K.lookup f_l_take = some ⟨oc_l_take, od_l_take, .func (PySem.W.fnOf "_law_take" "_law_take" (defArgs s_l_take) (defBody s_l_take) (defScope s_l_take) .none kV_l_take dc_l_take pm_l_take an_l_take cd_l_take ct_l_take), sl_l_take⟩)
    (c_l_take : PySem.W.codeIn K cd_l_take "_law_take" = true)
    (k_l_take : PySem.W.keepIn K (.ref f_l_take) = true)
    (a_l_of : PySem.W.nsIn K mainGlobals "_law_of" = some (some (.ref f_l_of)))
    (l_l_of : K.lookup f_l_of = some ⟨oc_l_of, od_l_of, .func (PySem.W.fnOf "_law_of" "_law_of" (defArgs s_l_of) (defBody s_l_of) (defScope s_l_of) .none kV_l_of dc_l_of pm_l_of an_l_of cd_l_of ct_l_of), sl_l_of⟩)
    (c_l_of : PySem.W.codeIn K cd_l_of "_law_of" = true)
    (k_l_of : PySem.W.keepIn K (.ref f_l_of) = true)
    (a_l_some : PySem.W.nsIn K mainGlobals "_law_some" = some (some (.ref f_l_some)))
    (l_l_some : K.lookup f_l_some = some ⟨oc_l_some, od_l_some, .func (PySem.W.fnOf "_law_some" "_law_some" (defArgs s_l_some) (defBody s_l_some) (defScope s_l_some) .none kV_l_some dc_l_some pm_l_some an_l_some cd_l_some ct_l_some), sl_l_some⟩)
    (c_l_some : PySem.W.codeIn K cd_l_some "_law_some" = true)
    (k_l_some : PySem.W.keepIn K (.ref f_l_some) = true)
    (a_l_cells : PySem.W.nsIn K mainGlobals "_law_cells" = some (some (.ref f_l_cells)))
    (l_l_cells : K.lookup f_l_cells = some ⟨oc_l_cells, od_l_cells, .func (PySem.W.fnOf "_law_cells" "_law_cells" (defArgs s_l_cells) (defBody s_l_cells) (defScope s_l_cells) .none kV_l_cells dc_l_cells pm_l_cells an_l_cells cd_l_cells ct_l_cells), sl_l_cells⟩)
    (c_l_cells : PySem.W.codeIn K cd_l_cells "_law_cells" = true)
    (k_l_cells : PySem.W.keepIn K (.ref f_l_cells) = true)
    (a_l_heard : PySem.W.nsIn K mainGlobals "_law_heard" = some (some (.ref f_l_heard)))
    (l_l_heard : K.lookup f_l_heard = some ⟨oc_l_heard, od_l_heard, .func (PySem.W.fnOf "_law_heard" "_law_heard" (defArgs s_l_heard) (defBody s_l_heard) (defScope s_l_heard) .none kV_l_heard dc_l_heard pm_l_heard an_l_heard cd_l_heard ct_l_heard), sl_l_heard⟩)
    (c_l_heard : PySem.W.codeIn K cd_l_heard "_law_heard" = true)
    (k_l_heard : PySem.W.keepIn K (.ref f_l_heard) = true)
    (a_l_num : PySem.W.nsIn K mainGlobals "_law_num" = some (some (.ref f_l_num)))
    (l_l_num : K.lookup f_l_num = some ⟨oc_l_num, od_l_num, .func (PySem.W.fnOf "_law_num" "_law_num" (defArgs s_l_num) (defBody s_l_num) (defScope s_l_num) .none kV_l_num dc_l_num pm_l_num an_l_num cd_l_num ct_l_num), sl_l_num⟩)
    (c_l_num : PySem.W.codeIn K cd_l_num "_law_num" = true)
    (k_l_num : PySem.W.keepIn K (.ref f_l_num) = true)
    (a_l_book_names : PySem.W.nsIn K mainGlobals "_law_book_names" = some (some (.ref f_l_book_names)))
    (l_l_book_names : K.lookup f_l_book_names = some ⟨oc_l_book_names, od_l_book_names, .func (PySem.W.fnOf "_law_book_names" "_law_book_names" (defArgs s_l_book_names) (defBody s_l_book_names) (defScope s_l_book_names) .none kV_l_book_names dc_l_book_names pm_l_book_names an_l_book_names cd_l_book_names ct_l_book_names), sl_l_book_names⟩)
    (c_l_book_names : PySem.W.codeIn K cd_l_book_names "_law_book_names" = true)
    (k_l_book_names : PySem.W.keepIn K (.ref f_l_book_names) = true)
    (a_l_script_line_gates : PySem.W.nsIn K mainGlobals "_law_script_line_gates" = some (some (.ref f_l_script_line_gates)))
    (l_l_script_line_gates : K.lookup f_l_script_line_gates = some ⟨oc_l_script_line_gates, od_l_script_line_gates, .func (PySem.W.fnOf "_law_script_line_gates" "_law_script_line_gates" (defArgs s_l_script_line_gates) (defBody s_l_script_line_gates) (defScope s_l_script_line_gates) .none kV_l_script_line_gates dc_l_script_line_gates pm_l_script_line_gates an_l_script_line_gates cd_l_script_line_gates ct_l_script_line_gates), sl_l_script_line_gates⟩)
    (c_l_script_line_gates : PySem.W.codeIn K cd_l_script_line_gates "_law_script_line_gates" = true)
    (k_l_script_line_gates : PySem.W.keepIn K (.ref f_l_script_line_gates) = true)
    (a_l_script_gates : PySem.W.nsIn K mainGlobals "_law_script_gates" = some (some (.ref f_l_script_gates)))
    (l_l_script_gates : K.lookup f_l_script_gates = some ⟨oc_l_script_gates, od_l_script_gates, .func (PySem.W.fnOf "_law_script_gates" "_law_script_gates" (defArgs s_l_script_gates) (defBody s_l_script_gates) (defScope s_l_script_gates) .none kV_l_script_gates dc_l_script_gates pm_l_script_gates an_l_script_gates cd_l_script_gates ct_l_script_gates), sl_l_script_gates⟩)
    (c_l_script_gates : PySem.W.codeIn K cd_l_script_gates "_law_script_gates" = true)
    (k_l_script_gates : PySem.W.keepIn K (.ref f_l_script_gates) = true)
    (a_l_script_factor_text : PySem.W.nsIn K mainGlobals "_law_script_factor_text" = some (some (.ref f_l_script_factor_text)))
    (l_l_script_factor_text : K.lookup f_l_script_factor_text = some ⟨oc_l_script_factor_text, od_l_script_factor_text, .func (PySem.W.fnOf "_law_script_factor_text" "_law_script_factor_text" (defArgs s_l_script_factor_text) (defBody s_l_script_factor_text) (defScope s_l_script_factor_text) .none kV_l_script_factor_text dc_l_script_factor_text pm_l_script_factor_text an_l_script_factor_text cd_l_script_factor_text ct_l_script_factor_text), sl_l_script_factor_text⟩)
    (c_l_script_factor_text : PySem.W.codeIn K cd_l_script_factor_text "_law_script_factor_text" = true)
    (k_l_script_factor_text : PySem.W.keepIn K (.ref f_l_script_factor_text) = true)
    (a_l_script_line_text : PySem.W.nsIn K mainGlobals "_law_script_line_text" = some (some (.ref f_l_script_line_text)))
    (l_l_script_line_text : K.lookup f_l_script_line_text = some ⟨oc_l_script_line_text, od_l_script_line_text, .func (PySem.W.fnOf "_law_script_line_text" "_law_script_line_text" (defArgs s_l_script_line_text) (defBody s_l_script_line_text) (defScope s_l_script_line_text) .none kV_l_script_line_text dc_l_script_line_text pm_l_script_line_text an_l_script_line_text cd_l_script_line_text ct_l_script_line_text), sl_l_script_line_text⟩)
    (c_l_script_line_text : PySem.W.codeIn K cd_l_script_line_text "_law_script_line_text" = true)
    (k_l_script_line_text : PySem.W.keepIn K (.ref f_l_script_line_text) = true)
    (a_l_script_text : PySem.W.nsIn K mainGlobals "_law_script_text" = some (some (.ref f_l_script_text)))
    (l_l_script_text : K.lookup f_l_script_text = some ⟨oc_l_script_text, od_l_script_text, .func (PySem.W.fnOf "_law_script_text" "_law_script_text" (defArgs s_l_script_text) (defBody s_l_script_text) (defScope s_l_script_text) .none kV_l_script_text dc_l_script_text pm_l_script_text an_l_script_text cd_l_script_text ct_l_script_text), sl_l_script_text⟩)
    (c_l_script_text : PySem.W.codeIn K cd_l_script_text "_law_script_text" = true)
    (k_l_script_text : PySem.W.keepIn K (.ref f_l_script_text) = true)
    (a_l_script_is_word : PySem.W.nsIn K mainGlobals "_law_script_is_word" = some (some (.ref f_l_script_is_word)))
    (l_l_script_is_word : K.lookup f_l_script_is_word = some ⟨oc_l_script_is_word, od_l_script_is_word, .func (PySem.W.fnOf "_law_script_is_word" "_law_script_is_word" (defArgs s_l_script_is_word) (defBody s_l_script_is_word) (defScope s_l_script_is_word) .none kV_l_script_is_word dc_l_script_is_word pm_l_script_is_word an_l_script_is_word cd_l_script_is_word ct_l_script_is_word), sl_l_script_is_word⟩)
    (c_l_script_is_word : PySem.W.codeIn K cd_l_script_is_word "_law_script_is_word" = true)
    (k_l_script_is_word : PySem.W.keepIn K (.ref f_l_script_is_word) = true)
    (a_l_script_is_name : PySem.W.nsIn K mainGlobals "_law_script_is_name" = some (some (.ref f_l_script_is_name)))
    (l_l_script_is_name : K.lookup f_l_script_is_name = some ⟨oc_l_script_is_name, od_l_script_is_name, .func (PySem.W.fnOf "_law_script_is_name" "_law_script_is_name" (defArgs s_l_script_is_name) (defBody s_l_script_is_name) (defScope s_l_script_is_name) .none kV_l_script_is_name dc_l_script_is_name pm_l_script_is_name an_l_script_is_name cd_l_script_is_name ct_l_script_is_name), sl_l_script_is_name⟩)
    (c_l_script_is_name : PySem.W.codeIn K cd_l_script_is_name "_law_script_is_name" = true)
    (k_l_script_is_name : PySem.W.keepIn K (.ref f_l_script_is_name) = true)
    (a_l_script_integer : PySem.W.nsIn K mainGlobals "_law_script_integer" = some (some (.ref f_l_script_integer)))
    (l_l_script_integer : K.lookup f_l_script_integer = some ⟨oc_l_script_integer, od_l_script_integer, .func (PySem.W.fnOf "_law_script_integer" "_law_script_integer" (defArgs s_l_script_integer) (defBody s_l_script_integer) (defScope s_l_script_integer) .none kV_l_script_integer dc_l_script_integer pm_l_script_integer an_l_script_integer cd_l_script_integer ct_l_script_integer), sl_l_script_integer⟩)
    (c_l_script_integer : PySem.W.codeIn K cd_l_script_integer "_law_script_integer" = true)
    (k_l_script_integer : PySem.W.keepIn K (.ref f_l_script_integer) = true)
    (a_l_script_factor : PySem.W.nsIn K mainGlobals "_law_script_factor" = some (some (.ref f_l_script_factor)))
    (l_l_script_factor : K.lookup f_l_script_factor = some ⟨oc_l_script_factor, od_l_script_factor, .func (PySem.W.fnOf "_law_script_factor" "_law_script_factor" (defArgs s_l_script_factor) (defBody s_l_script_factor) (defScope s_l_script_factor) .none kV_l_script_factor dc_l_script_factor pm_l_script_factor an_l_script_factor cd_l_script_factor ct_l_script_factor), sl_l_script_factor⟩)
    (c_l_script_factor : PySem.W.codeIn K cd_l_script_factor "_law_script_factor" = true)
    (k_l_script_factor : PySem.W.keepIn K (.ref f_l_script_factor) = true)
    (a_l_script_gate : PySem.W.nsIn K mainGlobals "_law_script_gate" = some (some (.ref f_l_script_gate)))
    (l_l_script_gate : K.lookup f_l_script_gate = some ⟨oc_l_script_gate, od_l_script_gate, .func (PySem.W.fnOf "_law_script_gate" "_law_script_gate" (defArgs s_l_script_gate) (defBody s_l_script_gate) (defScope s_l_script_gate) .none kV_l_script_gate dc_l_script_gate pm_l_script_gate an_l_script_gate cd_l_script_gate ct_l_script_gate), sl_l_script_gate⟩)
    (c_l_script_gate : PySem.W.codeIn K cd_l_script_gate "_law_script_gate" = true)
    (k_l_script_gate : PySem.W.keepIn K (.ref f_l_script_gate) = true)
    (a_l_script_parts : PySem.W.nsIn K mainGlobals "_law_script_parts" = some (some (.ref f_l_script_parts)))
    (l_l_script_parts : K.lookup f_l_script_parts = some ⟨oc_l_script_parts, od_l_script_parts, .func (PySem.W.fnOf "_law_script_parts" "_law_script_parts" (defArgs s_l_script_parts) (defBody s_l_script_parts) (defScope s_l_script_parts) .none kV_l_script_parts dc_l_script_parts pm_l_script_parts an_l_script_parts cd_l_script_parts ct_l_script_parts), sl_l_script_parts⟩)
    (c_l_script_parts : PySem.W.codeIn K cd_l_script_parts "_law_script_parts" = true)
    (k_l_script_parts : PySem.W.keepIn K (.ref f_l_script_parts) = true)
    (a_l_script_name : PySem.W.nsIn K mainGlobals "_law_script_name" = some (some (.ref f_l_script_name)))
    (l_l_script_name : K.lookup f_l_script_name = some ⟨oc_l_script_name, od_l_script_name, .func (PySem.W.fnOf "_law_script_name" "_law_script_name" (defArgs s_l_script_name) (defBody s_l_script_name) (defScope s_l_script_name) .none kV_l_script_name dc_l_script_name pm_l_script_name an_l_script_name cd_l_script_name ct_l_script_name), sl_l_script_name⟩)
    (c_l_script_name : PySem.W.codeIn K cd_l_script_name "_law_script_name" = true)
    (k_l_script_name : PySem.W.keepIn K (.ref f_l_script_name) = true)
    (a_l_script_factor_drawn : PySem.W.nsIn K mainGlobals "_law_script_factor_drawn" = some (some (.ref f_l_script_factor_drawn)))
    (l_l_script_factor_drawn : K.lookup f_l_script_factor_drawn = some ⟨oc_l_script_factor_drawn, od_l_script_factor_drawn, .func (PySem.W.fnOf "_law_script_factor_drawn" "_law_script_factor_drawn" (defArgs s_l_script_factor_drawn) (defBody s_l_script_factor_drawn) (defScope s_l_script_factor_drawn) .none kV_l_script_factor_drawn dc_l_script_factor_drawn pm_l_script_factor_drawn an_l_script_factor_drawn cd_l_script_factor_drawn ct_l_script_factor_drawn), sl_l_script_factor_drawn⟩)
    (c_l_script_factor_drawn : PySem.W.codeIn K cd_l_script_factor_drawn "_law_script_factor_drawn" = true)
    (k_l_script_factor_drawn : PySem.W.keepIn K (.ref f_l_script_factor_drawn) = true)
    (a_l_script_simple : PySem.W.nsIn K mainGlobals "_law_script_simple" = some (some (.ref f_l_script_simple)))
    (l_l_script_simple : K.lookup f_l_script_simple = some ⟨oc_l_script_simple, od_l_script_simple, .func (PySem.W.fnOf "_law_script_simple" "_law_script_simple" (defArgs s_l_script_simple) (defBody s_l_script_simple) (defScope s_l_script_simple) .none kV_l_script_simple dc_l_script_simple pm_l_script_simple an_l_script_simple cd_l_script_simple ct_l_script_simple), sl_l_script_simple⟩)
    (c_l_script_simple : PySem.W.codeIn K cd_l_script_simple "_law_script_simple" = true)
    (k_l_script_simple : PySem.W.keepIn K (.ref f_l_script_simple) = true)
    (a_l_script_some : PySem.W.nsIn K mainGlobals "_law_script_some" = some (some (.ref f_l_script_some)))
    (l_l_script_some : K.lookup f_l_script_some = some ⟨oc_l_script_some, od_l_script_some, .func (PySem.W.fnOf "_law_script_some" "_law_script_some" (defArgs s_l_script_some) (defBody s_l_script_some) (defScope s_l_script_some) .none kV_l_script_some dc_l_script_some pm_l_script_some an_l_script_some cd_l_script_some ct_l_script_some), sl_l_script_some⟩)
    (c_l_script_some : PySem.W.codeIn K cd_l_script_some "_law_script_some" = true)
    (k_l_script_some : PySem.W.keepIn K (.ref f_l_script_some) = true)
    (a_l_script_try : PySem.W.nsIn K mainGlobals "_law_script_try" = some (some (.ref f_l_script_try)))
    (l_l_script_try : K.lookup f_l_script_try = some ⟨oc_l_script_try, od_l_script_try, .func (PySem.W.fnOf "_law_script_try" "_law_script_try" (defArgs s_l_script_try) (defBody s_l_script_try) (defScope s_l_script_try) .none kV_l_script_try dc_l_script_try pm_l_script_try an_l_script_try cd_l_script_try ct_l_script_try), sl_l_script_try⟩)
    (c_l_script_try : PySem.W.codeIn K cd_l_script_try "_law_script_try" = true)
    (k_l_script_try : PySem.W.keepIn K (.ref f_l_script_try) = true)
    (a_l_script_size : PySem.W.nsIn K mainGlobals "_law_script_size" = some (some (.ref f_l_script_size)))
    (l_l_script_size : K.lookup f_l_script_size = some ⟨oc_l_script_size, od_l_script_size, .func (PySem.W.fnOf "_law_script_size" "_law_script_size" (defArgs s_l_script_size) (defBody s_l_script_size) (defScope s_l_script_size) .none kV_l_script_size dc_l_script_size pm_l_script_size an_l_script_size cd_l_script_size ct_l_script_size), sl_l_script_size⟩)
    (c_l_script_size : PySem.W.codeIn K cd_l_script_size "_law_script_size" = true)
    (k_l_script_size : PySem.W.keepIn K (.ref f_l_script_size) = true)
    (a_l_script_drawn : PySem.W.nsIn K mainGlobals "_law_script_drawn" = some (some (.ref f_l_script_drawn)))
    (l_l_script_drawn : K.lookup f_l_script_drawn = some ⟨oc_l_script_drawn, od_l_script_drawn, .func (PySem.W.fnOf "_law_script_drawn" "_law_script_drawn" (defArgs s_l_script_drawn) (defBody s_l_script_drawn) (defScope s_l_script_drawn) .none kV_l_script_drawn dc_l_script_drawn pm_l_script_drawn an_l_script_drawn cd_l_script_drawn ct_l_script_drawn), sl_l_script_drawn⟩)
    (c_l_script_drawn : PySem.W.codeIn K cd_l_script_drawn "_law_script_drawn" = true)
    (k_l_script_drawn : PySem.W.keepIn K (.ref f_l_script_drawn) = true)
    (a_l_around_line : PySem.W.nsIn K mainGlobals "_law_around_line" = some (some (.ref f_l_around_line)))
    (l_l_around_line : K.lookup f_l_around_line = some ⟨oc_l_around_line, od_l_around_line, .func (PySem.W.fnOf "_law_around_line" "_law_around_line" (defArgs s_l_around_line) (defBody s_l_around_line) (defScope s_l_around_line) .none kV_l_around_line dc_l_around_line pm_l_around_line an_l_around_line cd_l_around_line ct_l_around_line), sl_l_around_line⟩)
    (c_l_around_line : PySem.W.codeIn K cd_l_around_line "_law_around_line" = true)
    (k_l_around_line : PySem.W.keepIn K (.ref f_l_around_line) = true)
    (a_l_odd : PySem.W.nsIn K mainGlobals "_law_odd" = some (some (.ref f_l_odd)))
    (l_l_odd : K.lookup f_l_odd = some ⟨oc_l_odd, od_l_odd, .func (PySem.W.fnOf "_law_odd" "_law_odd" (defArgs s_l_odd) (defBody s_l_odd) (defScope s_l_odd) .none kV_l_odd dc_l_odd pm_l_odd an_l_odd cd_l_odd ct_l_odd), sl_l_odd⟩)
    (c_l_odd : PySem.W.codeIn K cd_l_odd "_law_odd" = true)
    (k_l_odd : PySem.W.keepIn K (.ref f_l_odd) = true)
    (a_l_bent_line : PySem.W.nsIn K mainGlobals "_law_bent_line" = some (some (.ref f_l_bent_line)))
    (l_l_bent_line : K.lookup f_l_bent_line = some ⟨oc_l_bent_line, od_l_bent_line, .func (PySem.W.fnOf "_law_bent_line" "_law_bent_line" (defArgs s_l_bent_line) (defBody s_l_bent_line) (defScope s_l_bent_line) .none kV_l_bent_line dc_l_bent_line pm_l_bent_line an_l_bent_line cd_l_bent_line ct_l_bent_line), sl_l_bent_line⟩)
    (c_l_bent_line : PySem.W.codeIn K cd_l_bent_line "_law_bent_line" = true)
    (k_l_bent_line : PySem.W.keepIn K (.ref f_l_bent_line) = true)
    (a_l_bent_text : PySem.W.nsIn K mainGlobals "_law_bent_text" = some (some (.ref f_l_bent_text)))
    (l_l_bent_text : K.lookup f_l_bent_text = some ⟨oc_l_bent_text, od_l_bent_text, .func (PySem.W.fnOf "_law_bent_text" "_law_bent_text" (defArgs s_l_bent_text) (defBody s_l_bent_text) (defScope s_l_bent_text) .none kV_l_bent_text dc_l_bent_text pm_l_bent_text an_l_bent_text cd_l_bent_text ct_l_bent_text), sl_l_bent_text⟩)
    (c_l_bent_text : PySem.W.codeIn K cd_l_bent_text "_law_bent_text" = true)
    (k_l_bent_text : PySem.W.keepIn K (.ref f_l_bent_text) = true)
    (a_l_wrong : PySem.W.nsIn K mainGlobals "_law_wrong" = some (some (.ref f_l_wrong)))
    (l_l_wrong : K.lookup f_l_wrong = some ⟨oc_l_wrong, od_l_wrong, .func (PySem.W.fnOf "_law_wrong" "_law_wrong" (defArgs s_l_wrong) (defBody s_l_wrong) (defScope s_l_wrong) .none kV_l_wrong dc_l_wrong pm_l_wrong an_l_wrong cd_l_wrong ct_l_wrong), sl_l_wrong⟩)
    (c_l_wrong : PySem.W.codeIn K cd_l_wrong "_law_wrong" = true)
    (k_l_wrong : PySem.W.keepIn K (.ref f_l_wrong) = true)
    (a_l_rests : PySem.W.nsIn K mainGlobals "_law_rests" = some (some (.ref f_l_rests)))
    (l_l_rests : K.lookup f_l_rests = some ⟨oc_l_rests, od_l_rests, .func (PySem.W.fnOf "_law_rests" "_law_rests" (defArgs s_l_rests) (defBody s_l_rests) (defScope s_l_rests) .none kV_l_rests dc_l_rests pm_l_rests an_l_rests cd_l_rests ct_l_rests), sl_l_rests⟩)
    (c_l_rests : PySem.W.codeIn K cd_l_rests "_law_rests" = true)
    (k_l_rests : PySem.W.keepIn K (.ref f_l_rests) = true)
    (a_l_heads : PySem.W.nsIn K mainGlobals "_law_heads" = some (some (.ref f_l_heads)))
    (l_l_heads : K.lookup f_l_heads = some ⟨oc_l_heads, od_l_heads, .func (PySem.W.fnOf "_law_heads" "_law_heads" (defArgs s_l_heads) (defBody s_l_heads) (defScope s_l_heads) .none kV_l_heads dc_l_heads pm_l_heads an_l_heads cd_l_heads ct_l_heads), sl_l_heads⟩)
    (c_l_heads : PySem.W.codeIn K cd_l_heads "_law_heads" = true)
    (k_l_heads : PySem.W.keepIn K (.ref f_l_heads) = true)
    (a_l_more_text : PySem.W.nsIn K mainGlobals "_law_more_text" = some (some (.ref f_l_more_text)))
    (l_l_more_text : K.lookup f_l_more_text = some ⟨oc_l_more_text, od_l_more_text, .func (PySem.W.fnOf "_law_more_text" "_law_more_text" (defArgs s_l_more_text) (defBody s_l_more_text) (defScope s_l_more_text) .none kV_l_more_text dc_l_more_text pm_l_more_text an_l_more_text cd_l_more_text ct_l_more_text), sl_l_more_text⟩)
    (c_l_more_text : PySem.W.codeIn K cd_l_more_text "_law_more_text" = true)
    (k_l_more_text : PySem.W.keepIn K (.ref f_l_more_text) = true)
    (a_l_right : PySem.W.nsIn K mainGlobals "_law_right" = some (some (.ref f_l_right)))
    (l_l_right : K.lookup f_l_right = some ⟨oc_l_right, od_l_right, .func (PySem.W.fnOf "_law_right" "_law_right" (defArgs s_l_right) (defBody s_l_right) (defScope s_l_right) .none kV_l_right dc_l_right pm_l_right an_l_right (.ref cJ1) ct_l_right), sl_l_right⟩)
    (c_l_right : PySem.W.codeIn K (.ref cJ1) "_law_right" = true)
    (k_l_right : PySem.W.keepIn K (.ref f_l_right) = true)
    (a_law : PySem.W.nsIn K mainGlobals "law" = some (some (.ref f_law)))
    (l_law : K.lookup f_law = some ⟨oc_law, od_law, .func (PySem.W.fnOf "law" "law" (defArgs s_law) (defBody s_law) (defScope s_law) .none kV_law dc_law pm_law an_law cd_law ct_law), sl_law⟩)
    (c_law : PySem.W.codeIn K cd_law "law" = true)
    (k_law : PySem.W.keepIn K (.ref f_law) = true)
    (n_ValueError : PySem.W.nsIn K mainGlobals "ValueError" = some none)
    (n_abs : PySem.W.nsIn K mainGlobals "abs" = some none)
    (n_all : PySem.W.nsIn K mainGlobals "all" = some none)
    (n_any : PySem.W.nsIn K mainGlobals "any" = some none)
    (n_bool : PySem.W.nsIn K mainGlobals "bool" = some none)
    (n_enumerate : PySem.W.nsIn K mainGlobals "enumerate" = some none)
    (n_int : PySem.W.nsIn K mainGlobals "int" = some none)
    (n_isinstance : PySem.W.nsIn K mainGlobals "isinstance" = some none)
    (n_len : PySem.W.nsIn K mainGlobals "len" = some none)
    (n_list : PySem.W.nsIn K mainGlobals "list" = some none)
    (n_max : PySem.W.nsIn K mainGlobals "max" = some none)
    (n_min : PySem.W.nsIn K mainGlobals "min" = some none)
    (n_range : PySem.W.nsIn K mainGlobals "range" = some none)
    (n_repr : PySem.W.nsIn K mainGlobals "repr" = some none)
    (n_set : PySem.W.nsIn K mainGlobals "set" = some none)
    (n_sorted : PySem.W.nsIn K mainGlobals "sorted" = some none)
    (n_str : PySem.W.nsIn K mainGlobals "str" = some none)
    (n_sum : PySem.W.nsIn K mainGlobals "sum" = some none)
    (n_tuple : PySem.W.nsIn K mainGlobals "tuple" = some none)
    (n_zip : PySem.W.nsIn K mainGlobals "zip" = some none)
    (m_LETTERS : PySem.W.nsIn K mainGlobals "LETTERS" = some (some (.str "abcdefghijklmnopqrstuvwxyz" t_LETTERS)))
    (m_FIGURES : PySem.W.nsIn K mainGlobals "FIGURES" = some (some (.str "0123456789" t_FIGURES)))
    (m_MOST_FIGURES : PySem.W.nsIn K mainGlobals "MOST_FIGURES" = some (some (.int 1000 t_MOST_FIGURES)))
    (m_NO_NAMES : PySem.W.nsIn K mainGlobals "NO_NAMES" = some (some (.ref aP)))
    (l_NO_NAMES : K.lookup aP = some ⟨.type "tuple", dP, .seq uP nP, slP⟩)
    (v_NO_NAMES : Vals ((["script", "around", "one", "road", "close", "turn", "add"] : List Str).map V.str) uP.toList)
    (z_NO_NAMES : uP.size ≤ 1000)
    (m_dig : PySem.W.nsIn K cStatics "sys.int_max_str_digits" = some none)
    (m_gcd : PySem.W.nsIn K mainGlobals "gcd" = some (some (.builtin "math.gcd")))
    (xL_BadScript : K.lookup c_BadScript = some (excClassObj nmBadScript qnBadScript c_BadScript NnBadScript bsBadScript [.ref c_GateError, .type "ValueError", .type "Exception", .type "BaseException", .type "object"] true snBadScript subBadScript abBadScript colBadScript ddBadScript x0BadScript x1BadScript x2BadScript x3BadScript x5BadScript "ValueError.__new__"))
    (e_saBadScript : PySem.W.findIn K (.ref c_BadScript) "__setattr__" = some (some (.builtin "object.__setattr__")))
    (e_exBadScript : PySem.W.subIn K (.ref c_BadScript) (.type "BaseException") = some true)
    (e_tyBadScript : PySem.W.typeIn K (.ref c_BadScript) = some (.type "type"))
    (e_kpBadScript : PySem.W.keepIn K (.ref c_BadScript) = true)
    (e_inBadScript : PySem.W.findIn K (.ref c_BadScript) "__init__" = some (some (.ref f_GateError_init)))
    (e_noBadScript : PySem.W.findIn K (.ref c_BadScript) "value" = some none)
    (e_tI : PySem.W.typeIn K (.ref f_GateError_init) = some (.type "function"))
    (e_hn : PySem.W.specialIn K (.builtin "object.__class__") "__get__" = some (some (.builtin "getset_descriptor.__get__")))
    (e_ht : PySem.W.takesIn K (.builtin "object.__class__") = some true)
    (g_ex : PySem.W.subIn K (.ref c_GateError) (.type "BaseException") = some true)
    (g_hd : PySem.W.hasDictIn K c_GateError = true)
    (g_ty : PySem.W.typeIn K (.ref c_GateError) = some (.type "type"))
    (o_gaBadScript : PySem.W.findIn K (.ref c_BadScript) "__getattribute__" = some (some (.builtin "BaseException.__getattribute__")))
    (o_ggBadScript : PySem.W.findIn K (.ref c_BadScript) "__getattr__" = some none)
    (o_hdBadScript : PySem.W.hasDictIn K c_BadScript = true)
    (o_haBadScript : PySem.W.findIn K (.ref c_BadScript) "__class__" = some (some (.builtin "object.__class__")))
    (o_hmBadScript : PySem.W.mroIn K c_BadScript (.type "object") = some true)
    (o_sbBadScript : PySem.W.subIn K (.ref c_BadScript) (.ref c_GateError) = some true)
    (o_icBadScript : PySem.W.isClsIn K c_BadScript = true)
    (b_ic : PySem.W.isClsIn K c_Script = true)
    (b_ty : PySem.W.typeIn K (.ref c_Script) = some (.type "type"))
    (b_pg : PySem.W.plainGet K c_Script Str.empty = true)
    (b_hd : PySem.W.hasDictIn K c_Script = true)
    (b_po : PySem.W.plainOver K c_Script = true)
    (b_sa : PySem.W.findIn K (.ref c_Script) "__setattr__" = some (some (.builtin "object.__setattr__")))
    (b_mk : PySem.W.makesIn K c_Script = true)
    (b_kp : PySem.W.keepIn K (.ref c_Script) = true)
    (b_n1 : PySem.W.findIn K (.ref c_Script) "text" = some none)
    (b_n2 : PySem.W.findIn K (.ref c_Script) "lines" = some none)
    (b_n3 : PySem.W.findIn K (.ref c_Script) "gates" = some none)
    (b_n4 : PySem.W.findIn K (.ref c_Script) "width" = some none)
    (b_n5 : PySem.W.findIn K (.ref c_Script) "is_plain" = some none)
    (b_n6 : PySem.W.findIn K (.ref c_Script) "_gates_by_name" = some none)
    (b_ca : PySem.W.findIn K (.ref c_Script) "__class__" = some (some (.builtin "object.__class__")))
    (b_ob : PySem.W.mroIn K c_Script (.type "object") = some true)
    (fn_Script_init : PySem.W.isFn K (.ref f_Script_init) = true)
    (j_hd1 : PySem.W.codeHdIn K cJ1 P1 = true)
    (j_no1 : K.lookup P1 = none)
    : ∃ (fd : FuncData) (sp : Sp) (Ts : List (Addr × Addr)), (∀ t ∈ Ts, h.get? t.2 = some { cls := .none, data := .fields #[] }) ∧ (∀ t ∈ Ts, K.lookup t.2 = none) ∧ (∀ t ∈ Ts, PySem.W.CodeHd h t.1 t.2) ∧ (∀ (s : Shared) (u : Value), BindsTo s fd ⟨[u], []⟩ [("script", u)]) ∧
      (∀ (H : Hp) (a : Addr) (ns : List Int), ns.length ≤ 63 → (∀ z ∈ ns, Builtin.Int.intBits z ≤ 1048576) → (∀ t ∈ Ts, H t.2 = some (.tbl #[])) → SqL K H a (ns.map V.int) → sp [.ref a] H (fun v _ => v = .bl true) E0) ∧
      ∀ base : Heap, K.In base → base.Ns mainGlobals mg → (∀ t ∈ Ts, TabB base mg t.1 t.2) → OGX.FnG l.prog w K mg base 14 fa fd ["script"] sp := by
  have e := hfa.symm.trans (PySem.W.mg_of X G a_law)
  cases e
  have F_GateError_init := fun_mk (st := s_GateError_init) l_GateError_init c_GateError_init k_GateError_init
  have b_GateError_init := F_GateError_init.binds (ps := ["self", "value"]) fun _ _ _ _ _ _ us hl => match us, hl with | [_, _], _ => rfl
  have F_integer_of := fun_mk (st := s_integer_of) l_integer_of c_integer_of k_integer_of
  have b_integer_of := F_integer_of.binds (ps := ["word", "most"]) fun _ _ _ _ _ _ us hl => match us, hl with | [_, _], _ => rfl
  have F_is_letters := fun_mk (st := s_is_letters) l_is_letters c_is_letters k_is_letters
  have b_is_letters := F_is_letters.binds (ps := ["word", "most"]) fun _ _ _ _ _ _ us hl => match us, hl with | [_, _], _ => rfl
  have F_is_line_name := fun_mk (st := s_is_line_name) l_is_line_name c_is_line_name k_is_line_name
  have b_is_line_name := F_is_line_name.binds (ps := ["word"]) fun _ _ _ _ _ _ us hl => match us, hl with | [_], _ => rfl
  have F_gate_of := fun_mk (st := s_gate_of) l_gate_of c_gate_of k_gate_of
  have b_gate_of := F_gate_of.binds (ps := ["word"]) fun _ _ _ _ _ _ us hl => match us, hl with | [_], _ => rfl
  have F_factor_of := fun_mk (st := s_factor_of) l_factor_of c_factor_of k_factor_of
  have b_factor_of := F_factor_of.binds (ps := ["word"]) fun _ _ _ _ _ _ us hl => match us, hl with | [_], _ => rfl
  have F_is_of := fun_mk (st := s_is_of) l_is_of c_is_of k_is_of
  have b_is_of := F_is_of.binds (ps := ["word", "signs"]) fun _ _ _ _ _ _ us hl => match us, hl with | [_, _], _ => rfl
  have F_read_line := fun_mk (st := s_read_line) l_read_line c_read_line k_read_line
  have b_read_line := F_read_line.binds (ps := ["text", "gates"]) fun _ _ _ _ _ _ us hl => match us, hl with | [_, _], _ => rfl
  have F_read_form := fun_mk (st := s_read_form) l_read_form c_read_form k_read_form
  have b_read_form := F_read_form.binds (ps := ["words", "gates"]) fun _ _ _ _ _ _ us hl => match us, hl with | [_, _], _ => rfl
  have F_read_gates := fun_mk (st := s_read_gates) l_read_gates c_read_gates k_read_gates
  have b_read_gates := F_read_gates.binds (ps := ["words"]) fun _ _ _ _ _ _ us hl => match us, hl with | [_], _ => rfl
  have F_read_one := fun_mk (st := s_read_one) l_read_one c_read_one k_read_one
  have b_read_one := F_read_one.binds (ps := ["words"]) fun _ _ _ _ _ _ us hl => match us, hl with | [_], _ => rfl
  have F_read_road := fun_mk (st := s_read_road) l_read_road c_read_road k_read_road
  have b_read_road := F_read_road.binds (ps := ["words"]) fun _ _ _ _ _ _ us hl => match us, hl with | [_], _ => rfl
  have F_read_product := fun_mk (st := s_read_product) l_read_product c_read_product k_read_product
  have b_read_product := F_read_product.binds (ps := ["words", "gates"]) fun _ _ _ _ _ _ us hl => match us, hl with | [_, _], _ => rfl
  have F_read_close := fun_mk (st := s_read_close) l_read_close c_read_close k_read_close
  have b_read_close := F_read_close.binds (ps := ["words", "gates"]) fun _ _ _ _ _ _ us hl => match us, hl with | [_, _], _ => rfl
  have F_read_turn := fun_mk (st := s_read_turn) l_read_turn c_read_turn k_read_turn
  have b_read_turn := F_read_turn.binds (ps := ["words", "gates"]) fun _ _ _ _ _ _ us hl => match us, hl with | [_, _], _ => rfl
  have F_read_add := fun_mk (st := s_read_add) l_read_add c_read_add k_read_add
  have b_read_add := F_read_add.binds (ps := ["words", "gates"]) fun _ _ _ _ _ _ us hl => match us, hl with | [_, _], _ => rfl
  have F_ascending := fun_mk (st := s_ascending) l_ascending c_ascending k_ascending
  have b_ascending := F_ascending.binds (ps := ["found"]) fun _ _ _ _ _ _ us hl => match us, hl with | [_], _ => rfl
  have F_Script_init := fun_mk (st := s_Script_init) l_Script_init c_Script_init k_Script_init
  have b_Script_init := F_Script_init.binds (ps := ["self", "text"]) fun _ _ _ _ _ _ us hl => match us, hl with | [_, _], _ => rfl
  have F_read_script := fun_mk (st := s_read_script) l_read_script c_read_script k_read_script
  have b_read_script := F_read_script.binds (ps := ["text"]) fun _ _ _ _ _ _ us hl => match us, hl with | [_], _ => rfl
  have F_l_pot := fun_mk (st := s_l_pot) l_l_pot c_l_pot k_l_pot
  have b_l_pot := F_l_pot.binds (ps := ["script", "place"]) fun _ _ _ _ _ _ us hl => match us, hl with | [_, _], _ => rfl
  have F_l_take := fun_mk (st := s_l_take) l_l_take c_l_take k_l_take
  have b_l_take := F_l_take.binds (ps := ["pot", "upto"]) fun _ _ _ _ _ _ us hl => match us, hl with | [_, _], _ => rfl
  have F_l_of := fun_mk (st := s_l_of) l_l_of c_l_of k_l_of
  have b_l_of := F_l_of.binds (ps := ["pot", "some"]) fun _ _ _ _ _ _ us hl => match us, hl with | [_, _], _ => rfl
  have F_l_some := fun_mk (st := s_l_some) l_l_some c_l_some k_l_some
  have b_l_some := F_l_some.binds (ps := ["pot", "pool", "many"]) fun _ _ _ _ _ _ us hl => match us, hl with | [_, _, _], _ => rfl
  have F_l_cells := fun_mk (st := s_l_cells) l_l_cells c_l_cells k_l_cells
  have b_l_cells := F_l_cells.binds (ps := ["script", "most"]) fun _ _ _ _ _ _ us hl => match us, hl with | [_, _], _ => rfl
  have F_l_heard := fun_mk (st := s_l_heard) l_l_heard c_l_heard k_l_heard
  have b_l_heard := F_l_heard.binds (ps := ["call"]) fun _ _ _ _ _ _ us hl => match us, hl with | [_], _ => rfl
  have F_l_num := fun_mk (st := s_l_num) l_l_num c_l_num k_l_num
  have b_l_num := F_l_num.binds (ps := ["by", "top", "bottom"]) fun _ _ _ _ _ _ us hl => match us, hl with | [_, _, _], _ => rfl
  have F_l_book_names := fun_mk (st := s_l_book_names) l_l_book_names c_l_book_names k_l_book_names
  have b_l_book_names := F_l_book_names.binds (ps := ["pot", "many"]) fun _ _ _ _ _ _ us hl => match us, hl with | [_, _], _ => rfl
  have F_l_script_line_gates := fun_mk (st := s_l_script_line_gates) l_l_script_line_gates c_l_script_line_gates k_l_script_line_gates
  have b_l_script_line_gates := F_l_script_line_gates.binds (ps := ["known", "form", "parts"]) fun _ _ _ _ _ _ us hl => match us, hl with | [_, _, _], _ => rfl
  have F_l_script_gates := fun_mk (st := s_l_script_gates) l_l_script_gates c_l_script_gates k_l_script_gates
  have b_l_script_gates := F_l_script_gates.binds (ps := ["lines"]) fun _ _ _ _ _ _ us hl => match us, hl with | [_], _ => rfl
  have F_l_script_factor_text := fun_mk (st := s_l_script_factor_text) l_l_script_factor_text c_l_script_factor_text k_l_script_factor_text
  have b_l_script_factor_text := F_l_script_factor_text.binds (ps := ["factor"]) fun _ _ _ _ _ _ us hl => match us, hl with | [_], _ => rfl
  have F_l_script_line_text := fun_mk (st := s_l_script_line_text) l_l_script_line_text c_l_script_line_text k_l_script_line_text
  have b_l_script_line_text := F_l_script_line_text.binds (ps := ["line"]) fun _ _ _ _ _ _ us hl => match us, hl with | [_], _ => rfl
  have F_l_script_text := fun_mk (st := s_l_script_text) l_l_script_text c_l_script_text k_l_script_text
  have b_l_script_text := F_l_script_text.binds (ps := ["lines"]) fun _ _ _ _ _ _ us hl => match us, hl with | [_], _ => rfl
  have F_l_script_is_word := fun_mk (st := s_l_script_is_word) l_l_script_is_word c_l_script_is_word k_l_script_is_word
  have b_l_script_is_word := F_l_script_is_word.binds (ps := ["word", "most"]) fun _ _ _ _ _ _ us hl => match us, hl with | [_, _], _ => rfl
  have F_l_script_is_name := fun_mk (st := s_l_script_is_name) l_l_script_is_name c_l_script_is_name k_l_script_is_name
  have b_l_script_is_name := F_l_script_is_name.binds (ps := ["word"]) fun _ _ _ _ _ _ us hl => match us, hl with | [_], _ => rfl
  have F_l_script_integer := fun_mk (st := s_l_script_integer) l_l_script_integer c_l_script_integer k_l_script_integer
  have b_l_script_integer := F_l_script_integer.binds (ps := ["word"]) fun _ _ _ _ _ _ us hl => match us, hl with | [_], _ => rfl
  have F_l_script_factor := fun_mk (st := s_l_script_factor) l_l_script_factor c_l_script_factor k_l_script_factor
  have b_l_script_factor := F_l_script_factor.binds (ps := ["word"]) fun _ _ _ _ _ _ us hl => match us, hl with | [_], _ => rfl
  have F_l_script_gate := fun_mk (st := s_l_script_gate) l_l_script_gate c_l_script_gate k_l_script_gate
  have b_l_script_gate := F_l_script_gate.binds (ps := ["word"]) fun _ _ _ _ _ _ us hl => match us, hl with | [_], _ => rfl
  have F_l_script_parts := fun_mk (st := s_l_script_parts) l_l_script_parts c_l_script_parts k_l_script_parts
  have b_l_script_parts := F_l_script_parts.binds (ps := ["known", "form", "words"]) fun _ _ _ _ _ _ us hl => match us, hl with | [_, _, _], _ => rfl
  have F_l_script_name := fun_mk (st := s_l_script_name) l_l_script_name c_l_script_name k_l_script_name
  have b_l_script_name := F_l_script_name.binds (ps := ["pot", "at"]) fun _ _ _ _ _ _ us hl => match us, hl with | [_, _], _ => rfl
  have F_l_script_factor_drawn := fun_mk (st := s_l_script_factor_drawn) l_l_script_factor_drawn c_l_script_factor_drawn k_l_script_factor_drawn
  have b_l_script_factor_drawn := F_l_script_factor_drawn.binds (ps := ["pot", "by"]) fun _ _ _ _ _ _ us hl => match us, hl with | [_, _], _ => rfl
  have F_l_script_simple := fun_mk (st := s_l_script_simple) l_l_script_simple c_l_script_simple k_l_script_simple
  have b_l_script_simple := F_l_script_simple.binds (ps := ["pot", "kinds", "width"]) fun _ _ _ _ _ _ us hl => match us, hl with | [_, _, _], _ => rfl
  have F_l_script_some := fun_mk (st := s_l_script_some) l_l_script_some c_l_script_some k_l_script_some
  have b_l_script_some := F_l_script_some.binds (ps := ["pot", "pool", "many"]) fun _ _ _ _ _ _ us hl => match us, hl with | [_, _, _], _ => rfl
  have F_l_script_try := fun_mk (st := s_l_script_try) l_l_script_try c_l_script_try k_l_script_try
  have b_l_script_try := F_l_script_try.binds (ps := ["pot", "by", "width", "known", "form"]) fun _ _ _ _ _ _ us hl => match us, hl with | [_, _, _, _, _], _ => rfl
  have F_l_script_size := fun_mk (st := s_l_script_size) l_l_script_size c_l_script_size k_l_script_size
  have b_l_script_size := F_l_script_size.binds (ps := ["sizes", "form", "parts"]) fun _ _ _ _ _ _ us hl => match us, hl with | [_, _, _], _ => rfl
  have F_l_script_drawn := fun_mk (st := s_l_script_drawn) l_l_script_drawn c_l_script_drawn k_l_script_drawn
  have b_l_script_drawn := F_l_script_drawn.binds (ps := ["pot", "book", "width", "budget", "is_plain"]) fun _ _ _ _ _ _ us hl => match us, hl with | [_, _, _, _, _], _ => rfl
  have F_l_around_line := fun_mk (st := s_l_around_line) l_l_around_line c_l_around_line k_l_around_line
  have b_l_around_line := F_l_around_line.binds (ps := ["known", "row"]) fun _ _ _ _ _ _ us hl => match us, hl with | [_, _], _ => rfl
  have F_l_odd := fun_mk (st := s_l_odd) l_l_odd c_l_odd k_l_odd
  have b_l_odd := F_l_odd.binds (ps := ["pot"]) fun _ _ _ _ _ _ us hl => match us, hl with | [_], _ => rfl
  have F_l_bent_line := fun_mk (st := s_l_bent_line) l_l_bent_line c_l_bent_line k_l_bent_line
  have b_l_bent_line := F_l_bent_line.binds (ps := ["pot", "line"]) fun _ _ _ _ _ _ us hl => match us, hl with | [_, _], _ => rfl
  have F_l_bent_text := fun_mk (st := s_l_bent_text) l_l_bent_text c_l_bent_text k_l_bent_text
  have b_l_bent_text := F_l_bent_text.binds (ps := ["pot", "text"]) fun _ _ _ _ _ _ us hl => match us, hl with | [_, _], _ => rfl
  have F_l_wrong := fun_mk (st := s_l_wrong) l_l_wrong c_l_wrong k_l_wrong
  have b_l_wrong := F_l_wrong.binds (ps := ["value"]) fun _ _ _ _ _ _ us hl => match us, hl with | [_], _ => rfl
  have F_l_rests := fun_mk (st := s_l_rests) l_l_rests c_l_rests k_l_rests
  have b_l_rests := F_l_rests.binds (ps := ["a", "gates"]) fun _ _ _ _ _ _ us hl => match us, hl with | [_, _], _ => rfl
  have F_l_heads := fun_mk (st := s_l_heads) l_l_heads c_l_heads k_l_heads
  have b_l_heads := F_l_heads.binds (ps := []) fun _ _ _ _ _ _ us hl => match us, hl with | [], _ => rfl
  have F_l_more_text := fun_mk (st := s_l_more_text) l_l_more_text c_l_more_text k_l_more_text
  have b_l_more_text := F_l_more_text.binds (ps := ["pot", "lines"]) fun _ _ _ _ _ _ us hl => match us, hl with | [_, _], _ => rfl
  have F_l_right := fun_mk (st := s_l_right) l_l_right c_l_right k_l_right
  have b_l_right := F_l_right.binds (ps := ["pot"]) fun _ _ _ _ _ _ us hl => match us, hl with | [_], _ => rfl
  have F_law := fun_mk (st := s_law) l_law c_law k_law
  have b_law := F_law.binds (ps := ["script"]) fun _ _ _ _ _ _ us hl => match us, hl with | [_], _ => rfl
  let T : Txt K mg := {
    f_GateError_init := f_GateError_init, fd_GateError_init := _, F_GateError_init := F_GateError_init, b_GateError_init := b_GateError_init
    f_integer_of := f_integer_of, fd_integer_of := _, F_integer_of := F_integer_of, b_integer_of := b_integer_of
    g_integer_of := PySem.W.mg_of X G a_integer_of
    f_is_letters := f_is_letters, fd_is_letters := _, F_is_letters := F_is_letters, b_is_letters := b_is_letters
    g_is_letters := PySem.W.mg_of X G a_is_letters
    f_is_line_name := f_is_line_name, fd_is_line_name := _, F_is_line_name := F_is_line_name, b_is_line_name := b_is_line_name
    g_is_line_name := PySem.W.mg_of X G a_is_line_name
    f_gate_of := f_gate_of, fd_gate_of := _, F_gate_of := F_gate_of, b_gate_of := b_gate_of
    g_gate_of := PySem.W.mg_of X G a_gate_of
    f_factor_of := f_factor_of, fd_factor_of := _, F_factor_of := F_factor_of, b_factor_of := b_factor_of
    g_factor_of := PySem.W.mg_of X G a_factor_of
    f_is_of := f_is_of, fd_is_of := _, F_is_of := F_is_of, b_is_of := b_is_of
    g_is_of := PySem.W.mg_of X G a_is_of
    f_read_line := f_read_line, fd_read_line := _, F_read_line := F_read_line, b_read_line := b_read_line
    g_read_line := PySem.W.mg_of X G a_read_line
    f_read_form := f_read_form, fd_read_form := _, F_read_form := F_read_form, b_read_form := b_read_form
    g_read_form := PySem.W.mg_of X G a_read_form
    f_read_gates := f_read_gates, fd_read_gates := _, F_read_gates := F_read_gates, b_read_gates := b_read_gates
    g_read_gates := PySem.W.mg_of X G a_read_gates
    f_read_one := f_read_one, fd_read_one := _, F_read_one := F_read_one, b_read_one := b_read_one
    g_read_one := PySem.W.mg_of X G a_read_one
    f_read_road := f_read_road, fd_read_road := _, F_read_road := F_read_road, b_read_road := b_read_road
    g_read_road := PySem.W.mg_of X G a_read_road
    f_read_product := f_read_product, fd_read_product := _, F_read_product := F_read_product, b_read_product := b_read_product
    g_read_product := PySem.W.mg_of X G a_read_product
    f_read_close := f_read_close, fd_read_close := _, F_read_close := F_read_close, b_read_close := b_read_close
    g_read_close := PySem.W.mg_of X G a_read_close
    f_read_turn := f_read_turn, fd_read_turn := _, F_read_turn := F_read_turn, b_read_turn := b_read_turn
    g_read_turn := PySem.W.mg_of X G a_read_turn
    f_read_add := f_read_add, fd_read_add := _, F_read_add := F_read_add, b_read_add := b_read_add
    g_read_add := PySem.W.mg_of X G a_read_add
    f_ascending := f_ascending, fd_ascending := _, F_ascending := F_ascending, b_ascending := b_ascending
    g_ascending := PySem.W.mg_of X G a_ascending
    f_Script_init := f_Script_init, fd_Script_init := _, F_Script_init := F_Script_init, b_Script_init := b_Script_init
    f_read_script := f_read_script, fd_read_script := _, F_read_script := F_read_script, b_read_script := b_read_script
    g_read_script := PySem.W.mg_of X G a_read_script
    f_l_pot := f_l_pot, fd_l_pot := _, F_l_pot := F_l_pot, b_l_pot := b_l_pot
    g_l_pot := PySem.W.mg_of X G a_l_pot
    f_l_take := f_l_take, fd_l_take := _, F_l_take := F_l_take, b_l_take := b_l_take
    g_l_take := PySem.W.mg_of X G a_l_take
    f_l_of := f_l_of, fd_l_of := _, F_l_of := F_l_of, b_l_of := b_l_of
    g_l_of := PySem.W.mg_of X G a_l_of
    f_l_some := f_l_some, fd_l_some := _, F_l_some := F_l_some, b_l_some := b_l_some
    g_l_some := PySem.W.mg_of X G a_l_some
    f_l_cells := f_l_cells, fd_l_cells := _, F_l_cells := F_l_cells, b_l_cells := b_l_cells
    g_l_cells := PySem.W.mg_of X G a_l_cells
    f_l_heard := f_l_heard, fd_l_heard := _, F_l_heard := F_l_heard, b_l_heard := b_l_heard
    g_l_heard := PySem.W.mg_of X G a_l_heard
    f_l_num := f_l_num, fd_l_num := _, F_l_num := F_l_num, b_l_num := b_l_num
    g_l_num := PySem.W.mg_of X G a_l_num
    f_l_book_names := f_l_book_names, fd_l_book_names := _, F_l_book_names := F_l_book_names, b_l_book_names := b_l_book_names
    g_l_book_names := PySem.W.mg_of X G a_l_book_names
    f_l_script_line_gates := f_l_script_line_gates, fd_l_script_line_gates := _, F_l_script_line_gates := F_l_script_line_gates, b_l_script_line_gates := b_l_script_line_gates
    g_l_script_line_gates := PySem.W.mg_of X G a_l_script_line_gates
    f_l_script_gates := f_l_script_gates, fd_l_script_gates := _, F_l_script_gates := F_l_script_gates, b_l_script_gates := b_l_script_gates
    g_l_script_gates := PySem.W.mg_of X G a_l_script_gates
    f_l_script_factor_text := f_l_script_factor_text, fd_l_script_factor_text := _, F_l_script_factor_text := F_l_script_factor_text, b_l_script_factor_text := b_l_script_factor_text
    g_l_script_factor_text := PySem.W.mg_of X G a_l_script_factor_text
    f_l_script_line_text := f_l_script_line_text, fd_l_script_line_text := _, F_l_script_line_text := F_l_script_line_text, b_l_script_line_text := b_l_script_line_text
    g_l_script_line_text := PySem.W.mg_of X G a_l_script_line_text
    f_l_script_text := f_l_script_text, fd_l_script_text := _, F_l_script_text := F_l_script_text, b_l_script_text := b_l_script_text
    g_l_script_text := PySem.W.mg_of X G a_l_script_text
    f_l_script_is_word := f_l_script_is_word, fd_l_script_is_word := _, F_l_script_is_word := F_l_script_is_word, b_l_script_is_word := b_l_script_is_word
    g_l_script_is_word := PySem.W.mg_of X G a_l_script_is_word
    f_l_script_is_name := f_l_script_is_name, fd_l_script_is_name := _, F_l_script_is_name := F_l_script_is_name, b_l_script_is_name := b_l_script_is_name
    g_l_script_is_name := PySem.W.mg_of X G a_l_script_is_name
    f_l_script_integer := f_l_script_integer, fd_l_script_integer := _, F_l_script_integer := F_l_script_integer, b_l_script_integer := b_l_script_integer
    g_l_script_integer := PySem.W.mg_of X G a_l_script_integer
    f_l_script_factor := f_l_script_factor, fd_l_script_factor := _, F_l_script_factor := F_l_script_factor, b_l_script_factor := b_l_script_factor
    g_l_script_factor := PySem.W.mg_of X G a_l_script_factor
    f_l_script_gate := f_l_script_gate, fd_l_script_gate := _, F_l_script_gate := F_l_script_gate, b_l_script_gate := b_l_script_gate
    g_l_script_gate := PySem.W.mg_of X G a_l_script_gate
    f_l_script_parts := f_l_script_parts, fd_l_script_parts := _, F_l_script_parts := F_l_script_parts, b_l_script_parts := b_l_script_parts
    g_l_script_parts := PySem.W.mg_of X G a_l_script_parts
    f_l_script_name := f_l_script_name, fd_l_script_name := _, F_l_script_name := F_l_script_name, b_l_script_name := b_l_script_name
    g_l_script_name := PySem.W.mg_of X G a_l_script_name
    f_l_script_factor_drawn := f_l_script_factor_drawn, fd_l_script_factor_drawn := _, F_l_script_factor_drawn := F_l_script_factor_drawn, b_l_script_factor_drawn := b_l_script_factor_drawn
    g_l_script_factor_drawn := PySem.W.mg_of X G a_l_script_factor_drawn
    f_l_script_simple := f_l_script_simple, fd_l_script_simple := _, F_l_script_simple := F_l_script_simple, b_l_script_simple := b_l_script_simple
    g_l_script_simple := PySem.W.mg_of X G a_l_script_simple
    f_l_script_some := f_l_script_some, fd_l_script_some := _, F_l_script_some := F_l_script_some, b_l_script_some := b_l_script_some
    g_l_script_some := PySem.W.mg_of X G a_l_script_some
    f_l_script_try := f_l_script_try, fd_l_script_try := _, F_l_script_try := F_l_script_try, b_l_script_try := b_l_script_try
    g_l_script_try := PySem.W.mg_of X G a_l_script_try
    f_l_script_size := f_l_script_size, fd_l_script_size := _, F_l_script_size := F_l_script_size, b_l_script_size := b_l_script_size
    g_l_script_size := PySem.W.mg_of X G a_l_script_size
    f_l_script_drawn := f_l_script_drawn, fd_l_script_drawn := _, F_l_script_drawn := F_l_script_drawn, b_l_script_drawn := b_l_script_drawn
    g_l_script_drawn := PySem.W.mg_of X G a_l_script_drawn
    f_l_around_line := f_l_around_line, fd_l_around_line := _, F_l_around_line := F_l_around_line, b_l_around_line := b_l_around_line
    g_l_around_line := PySem.W.mg_of X G a_l_around_line
    f_l_odd := f_l_odd, fd_l_odd := _, F_l_odd := F_l_odd, b_l_odd := b_l_odd
    g_l_odd := PySem.W.mg_of X G a_l_odd
    f_l_bent_line := f_l_bent_line, fd_l_bent_line := _, F_l_bent_line := F_l_bent_line, b_l_bent_line := b_l_bent_line
    g_l_bent_line := PySem.W.mg_of X G a_l_bent_line
    f_l_bent_text := f_l_bent_text, fd_l_bent_text := _, F_l_bent_text := F_l_bent_text, b_l_bent_text := b_l_bent_text
    g_l_bent_text := PySem.W.mg_of X G a_l_bent_text
    f_l_wrong := f_l_wrong, fd_l_wrong := _, F_l_wrong := F_l_wrong, b_l_wrong := b_l_wrong
    g_l_wrong := PySem.W.mg_of X G a_l_wrong
    f_l_rests := f_l_rests, fd_l_rests := _, F_l_rests := F_l_rests, b_l_rests := b_l_rests
    g_l_rests := PySem.W.mg_of X G a_l_rests
    f_l_heads := f_l_heads, fd_l_heads := _, F_l_heads := F_l_heads, b_l_heads := b_l_heads
    g_l_heads := PySem.W.mg_of X G a_l_heads
    f_l_more_text := f_l_more_text, fd_l_more_text := _, F_l_more_text := F_l_more_text, b_l_more_text := b_l_more_text
    g_l_more_text := PySem.W.mg_of X G a_l_more_text
    f_l_right := f_l_right, fd_l_right := _, F_l_right := F_l_right, b_l_right := b_l_right
    g_l_right := PySem.W.mg_of X G a_l_right
    f_law := fa, fd_law := _, F_law := F_law, b_law := b_law
    g_law := PySem.W.mg_of X G a_law
    n_ValueError := PySem.W.mg_none_of X G n_ValueError
    n_abs := PySem.W.mg_none_of X G n_abs
    n_all := PySem.W.mg_none_of X G n_all
    n_any := PySem.W.mg_none_of X G n_any
    n_bool := PySem.W.mg_none_of X G n_bool
    n_enumerate := PySem.W.mg_none_of X G n_enumerate
    n_int := PySem.W.mg_none_of X G n_int
    n_isinstance := PySem.W.mg_none_of X G n_isinstance
    n_len := PySem.W.mg_none_of X G n_len
    n_list := PySem.W.mg_none_of X G n_list
    n_max := PySem.W.mg_none_of X G n_max
    n_min := PySem.W.mg_none_of X G n_min
    n_range := PySem.W.mg_none_of X G n_range
    n_repr := PySem.W.mg_none_of X G n_repr
    n_set := PySem.W.mg_none_of X G n_set
    n_sorted := PySem.W.mg_none_of X G n_sorted
    n_str := PySem.W.mg_none_of X G n_str
    n_sum := PySem.W.mg_none_of X G n_sum
    n_tuple := PySem.W.mg_none_of X G n_tuple
    n_zip := PySem.W.mg_none_of X G n_zip
    m_LETTERS := ⟨_, PySem.W.mg_of X G m_LETTERS, ⟨_, rfl⟩⟩
    m_FIGURES := ⟨_, PySem.W.mg_of X G m_FIGURES, ⟨_, rfl⟩⟩
    m_MOST_FIGURES := ⟨_, PySem.W.mg_of X G m_MOST_FIGURES, ⟨_, rfl⟩⟩
    a_NO_NAMES := aP, m_NO_NAMES := ⟨_, PySem.W.mg_of X G m_NO_NAMES, rfl⟩, sq_NO_NAMES := fun H => .inr ⟨_, uP, nP, l_NO_NAMES, rfl, rfl, Nat.le_trans z_NO_NAMES (by decide), v_NO_NAMES⟩, dig := m_dig, g_gcd := PySem.W.mg_of X G m_gcd
    c_BadScript := c_BadScript, g_BadScript := PySem.W.mg_of X G a_BadScript
    c_GateError := c_GateError, g_GateError := PySem.W.mg_of X G a_GateError
    c_Script := c_Script, g_Script := PySem.W.mg_of X G a_Script }
  have XT : TxtX K mg T := {
    exB := ⟨⟨nmBadScript, qnBadScript, NnBadScript, bsBadScript, _, snBadScript, subBadScript, abBadScript, colBadScript, ddBadScript, x0BadScript, x1BadScript, x2BadScript, x3BadScript, x5BadScript, xL_BadScript, rfl⟩, e_saBadScript, e_exBadScript, e_tyBadScript, e_kpBadScript⟩
    inB := e_inBadScript
    tyI := e_tI
    noV := e_noBadScript
    xf := ⟨o_gaBadScript, o_ggBadScript, e_exBadScript, o_hdBadScript⟩
    ec := ⟨o_gaBadScript, o_ggBadScript, e_exBadScript, o_hdBadScript, o_haBadScript, e_hn, e_ht, o_hmBadScript⟩
    te := PySem.W.exm_ref g_ex g_hd g_ty o_sbBadScript
    kt := if_pos (by simp)
    cl := ⟨b_pg, b_hd, b_po, b_sa⟩
    mkS := ⟨b_mk, a_Script_init, fn_Script_init, b_kp⟩
    na1 := b_n1
    na2 := b_n2
    na3 := b_n3
    na4 := b_n4
    na5 := b_n5
    na6 := b_n6
    ca := b_ca
    ob := b_ob
    kb := if_pos (by simp) }
  have J1 : JAt K mg T cJ1 := ⟨⟨_, _, _, _, _, _, _, _, rfl, l_l_right, c_l_right⟩⟩
  have one : ∀ {R : Addr × Addr → Prop}, R (cJ1, P1) → ∀ t ∈ [(cJ1, P1)], R t := fun h1 t ht => by
    rw [List.mem_singleton.mp ht]
    exact h1
  refine ⟨T.fd_law, spLaw10 K P1, [(cJ1, P1)], one hP1, one j_no1, one (PySem.W.codeHd_of_K X j_hd1), fun s u => .of_eq rfl, ?_, ?_⟩
  · intro H a ns hl hb hT hS
    refine ⟨a, ns, rfl, hS, hl, hb, fun q hq => ?_, fun _ => rfl⟩
    rw [List.mem_singleton.mp hq]
    exact .nil (hT _ List.mem_cons_self)
  · intro base hK hN hTB
    exact ok_law (P := l.prog) (w := w) T XT J1 (hTB _ List.mem_cons_self)
end OG
open PySem PySem.W PyProof.Rows in
set_option maxRecDepth 100000 in
set_option maxHeartbeats 0 in
theorem PySem.Challenge.cw_opengates_k10_texts_of_no_scripts_holds : PySem.Challenge.rw_opengates_k10_texts_of_no_scripts.Holds := by
  w_on; o_law; k_head; (case hw => w_witness2)
  k_fill
  refine OGX.walkGL (l := PySem.Challenge.rw_opengates_k10_texts_of_no_scripts) (n := 63) (k := 14) (x := "script") rfl (by decide) rfl ⟨rfl, by decide, by decide⟩ (fun w h Y => PySem.W.km_in_of Y) ?F
  case F =>
    intro w mg fa h Y X KX G hmg
    refine' OG.all_mk KX G hmg (PySem.W.km_tabs_of Y _ List.mem_cons_self) ?p_a_BadScript ?p_a_GateError ?p_a_Script ?p_a_GateError_init ?p_l_GateError_init ?p_c_GateError_init ?p_k_GateError_init ?p_a_integer_of ?p_l_integer_of ?p_c_integer_of ?p_k_integer_of ?p_a_is_letters ?p_l_is_letters ?p_c_is_letters ?p_k_is_letters ?p_a_is_line_name ?p_l_is_line_name ?p_c_is_line_name ?p_k_is_line_name ?p_a_gate_of ?p_l_gate_of ?p_c_gate_of ?p_k_gate_of ?p_a_factor_of ?p_l_factor_of ?p_c_factor_of ?p_k_factor_of ?p_a_is_of ?p_l_is_of ?p_c_is_of ?p_k_is_of ?p_a_read_line ?p_l_read_line ?p_c_read_line ?p_k_read_line ?p_a_read_form ?p_l_read_form ?p_c_read_form ?p_k_read_form ?p_a_read_gates ?p_l_read_gates ?p_c_read_gates ?p_k_read_gates ?p_a_read_one ?p_l_read_one ?p_c_read_one ?p_k_read_one ?p_a_read_road ?p_l_read_road ?p_c_read_road ?p_k_read_road ?p_a_read_product ?p_l_read_product ?p_c_read_product ?p_k_read_product ?p_a_read_close ?p_l_read_close ?p_c_read_close ?p_k_read_close ?p_a_read_turn ?p_l_read_turn ?p_c_read_turn ?p_k_read_turn ?p_a_read_add ?p_l_read_add ?p_c_read_add ?p_k_read_add ?p_a_ascending ?p_l_ascending ?p_c_ascending ?p_k_ascending ?p_a_Script_init ?p_l_Script_init ?p_c_Script_init ?p_k_Script_init ?p_a_read_script ?p_l_read_script ?p_c_read_script ?p_k_read_script ?p_a_l_pot ?p_l_l_pot ?p_c_l_pot ?p_k_l_pot ?p_a_l_take ?p_l_l_take ?p_c_l_take ?p_k_l_take ?p_a_l_of ?p_l_l_of ?p_c_l_of ?p_k_l_of ?p_a_l_some ?p_l_l_some ?p_c_l_some ?p_k_l_some ?p_a_l_cells ?p_l_l_cells ?p_c_l_cells ?p_k_l_cells ?p_a_l_heard ?p_l_l_heard ?p_c_l_heard ?p_k_l_heard ?p_a_l_num ?p_l_l_num ?p_c_l_num ?p_k_l_num ?p_a_l_book_names ?p_l_l_book_names ?p_c_l_book_names ?p_k_l_book_names ?p_a_l_script_line_gates ?p_l_l_script_line_gates ?p_c_l_script_line_gates ?p_k_l_script_line_gates ?p_a_l_script_gates ?p_l_l_script_gates ?p_c_l_script_gates ?p_k_l_script_gates ?p_a_l_script_factor_text ?p_l_l_script_factor_text ?p_c_l_script_factor_text ?p_k_l_script_factor_text ?p_a_l_script_line_text ?p_l_l_script_line_text ?p_c_l_script_line_text ?p_k_l_script_line_text ?p_a_l_script_text ?p_l_l_script_text ?p_c_l_script_text ?p_k_l_script_text ?p_a_l_script_is_word ?p_l_l_script_is_word ?p_c_l_script_is_word ?p_k_l_script_is_word ?p_a_l_script_is_name ?p_l_l_script_is_name ?p_c_l_script_is_name ?p_k_l_script_is_name ?p_a_l_script_integer ?p_l_l_script_integer ?p_c_l_script_integer ?p_k_l_script_integer ?p_a_l_script_factor ?p_l_l_script_factor ?p_c_l_script_factor ?p_k_l_script_factor ?p_a_l_script_gate ?p_l_l_script_gate ?p_c_l_script_gate ?p_k_l_script_gate ?p_a_l_script_parts ?p_l_l_script_parts ?p_c_l_script_parts ?p_k_l_script_parts ?p_a_l_script_name ?p_l_l_script_name ?p_c_l_script_name ?p_k_l_script_name ?p_a_l_script_factor_drawn ?p_l_l_script_factor_drawn ?p_c_l_script_factor_drawn ?p_k_l_script_factor_drawn ?p_a_l_script_simple ?p_l_l_script_simple ?p_c_l_script_simple ?p_k_l_script_simple ?p_a_l_script_some ?p_l_l_script_some ?p_c_l_script_some ?p_k_l_script_some ?p_a_l_script_try ?p_l_l_script_try ?p_c_l_script_try ?p_k_l_script_try ?p_a_l_script_size ?p_l_l_script_size ?p_c_l_script_size ?p_k_l_script_size ?p_a_l_script_drawn ?p_l_l_script_drawn ?p_c_l_script_drawn ?p_k_l_script_drawn ?p_a_l_around_line ?p_l_l_around_line ?p_c_l_around_line ?p_k_l_around_line ?p_a_l_odd ?p_l_l_odd ?p_c_l_odd ?p_k_l_odd ?p_a_l_bent_line ?p_l_l_bent_line ?p_c_l_bent_line ?p_k_l_bent_line ?p_a_l_bent_text ?p_l_l_bent_text ?p_c_l_bent_text ?p_k_l_bent_text ?p_a_l_wrong ?p_l_l_wrong ?p_c_l_wrong ?p_k_l_wrong ?p_a_l_rests ?p_l_l_rests ?p_c_l_rests ?p_k_l_rests ?p_a_l_heads ?p_l_l_heads ?p_c_l_heads ?p_k_l_heads ?p_a_l_more_text ?p_l_l_more_text ?p_c_l_more_text ?p_k_l_more_text ?p_a_l_right ?p_l_l_right ?p_c_l_right ?p_k_l_right ?p_a_law ?p_l_law ?p_c_law ?p_k_law ?p_n_ValueError ?p_n_abs ?p_n_all ?p_n_any ?p_n_bool ?p_n_enumerate ?p_n_int ?p_n_isinstance ?p_n_len ?p_n_list ?p_n_max ?p_n_min ?p_n_range ?p_n_repr ?p_n_set ?p_n_sorted ?p_n_str ?p_n_sum ?p_n_tuple ?p_n_zip ?p_m_LETTERS ?p_m_FIGURES ?p_m_MOST_FIGURES ?p_m_NO_NAMES ?p_l_NO_NAMES ?p_v_NO_NAMES ?p_z_NO_NAMES ?p_m_dig ?p_m_gcd ?p_xL_BadScript ?p_e_saBadScript ?p_e_exBadScript ?p_e_tyBadScript ?p_e_kpBadScript ?p_e_inBadScript ?p_e_noBadScript ?p_e_tI ?p_e_hn ?p_e_ht ?p_g_ex ?p_g_hd ?p_g_ty ?p_o_gaBadScript ?p_o_ggBadScript ?p_o_hdBadScript ?p_o_haBadScript ?p_o_hmBadScript ?p_o_sbBadScript ?p_o_icBadScript ?p_b_ic ?p_b_ty ?p_b_pg ?p_b_hd ?p_b_po ?p_b_sa ?p_b_mk ?p_b_kp ?p_b_n1 ?p_b_n2 ?p_b_n3 ?p_b_n4 ?p_b_n5 ?p_b_n6 ?p_b_ca ?p_b_ob ?p_fn_Script_init ?p_j_hd1 ?p_j_no1
    (case p_a_BadScript => k_is)
    (case p_a_GateError => k_is)
    (case p_a_Script => k_is)
    (case p_a_GateError_init => k_is)
    (case p_l_GateError_init => k_is)
    (case p_c_GateError_init => k_is)
    (case p_k_GateError_init => k_is)
    (case p_a_integer_of => k_is)
    (case p_l_integer_of => k_is)
    (case p_c_integer_of => k_is)
    (case p_k_integer_of => k_is)
    (case p_a_is_letters => k_is)
    (case p_l_is_letters => k_is)
    (case p_c_is_letters => k_is)
    (case p_k_is_letters => k_is)
    (case p_a_is_line_name => k_is)
    (case p_l_is_line_name => k_is)
    (case p_c_is_line_name => k_is)
    (case p_k_is_line_name => k_is)
    (case p_a_gate_of => k_is)
    (case p_l_gate_of => k_is)
    (case p_c_gate_of => k_is)
    (case p_k_gate_of => k_is)
    (case p_a_factor_of => k_is)
    (case p_l_factor_of => k_is)
    (case p_c_factor_of => k_is)
    (case p_k_factor_of => k_is)
    (case p_a_is_of => k_is)
    (case p_l_is_of => k_is)
    (case p_c_is_of => k_is)
    (case p_k_is_of => k_is)
    (case p_a_read_line => k_is)
    (case p_l_read_line => k_is)
    (case p_c_read_line => k_is)
    (case p_k_read_line => k_is)
    (case p_a_read_form => k_is)
    (case p_l_read_form => k_is)
    (case p_c_read_form => k_is)
    (case p_k_read_form => k_is)
    (case p_a_read_gates => k_is)
    (case p_l_read_gates => k_is)
    (case p_c_read_gates => k_is)
    (case p_k_read_gates => k_is)
    (case p_a_read_one => k_is)
    (case p_l_read_one => k_is)
    (case p_c_read_one => k_is)
    (case p_k_read_one => k_is)
    (case p_a_read_road => k_is)
    (case p_l_read_road => k_is)
    (case p_c_read_road => k_is)
    (case p_k_read_road => k_is)
    (case p_a_read_product => k_is)
    (case p_l_read_product => k_is)
    (case p_c_read_product => k_is)
    (case p_k_read_product => k_is)
    (case p_a_read_close => k_is)
    (case p_l_read_close => k_is)
    (case p_c_read_close => k_is)
    (case p_k_read_close => k_is)
    (case p_a_read_turn => k_is)
    (case p_l_read_turn => k_is)
    (case p_c_read_turn => k_is)
    (case p_k_read_turn => k_is)
    (case p_a_read_add => k_is)
    (case p_l_read_add => k_is)
    (case p_c_read_add => k_is)
    (case p_k_read_add => k_is)
    (case p_a_ascending => k_is)
    (case p_l_ascending => k_is)
    (case p_c_ascending => k_is)
    (case p_k_ascending => k_is)
    (case p_a_Script_init => k_is)
    (case p_l_Script_init => k_is)
    (case p_c_Script_init => k_is)
    (case p_k_Script_init => k_is)
    (case p_a_read_script => k_is)
    (case p_l_read_script => k_is)
    (case p_c_read_script => k_is)
    (case p_k_read_script => k_is)
    (case p_a_l_pot => k_is)
    (case p_l_l_pot => k_is)
    (case p_c_l_pot => k_is)
    (case p_k_l_pot => k_is)
    (case p_a_l_take => k_is)
    (case p_l_l_take => k_is)
    (case p_c_l_take => k_is)
    (case p_k_l_take => k_is)
    (case p_a_l_of => k_is)
    (case p_l_l_of => k_is)
    (case p_c_l_of => k_is)
    (case p_k_l_of => k_is)
    (case p_a_l_some => k_is)
    (case p_l_l_some => k_is)
    (case p_c_l_some => k_is)
    (case p_k_l_some => k_is)
    (case p_a_l_cells => k_is)
    (case p_l_l_cells => k_is)
    (case p_c_l_cells => k_is)
    (case p_k_l_cells => k_is)
    (case p_a_l_heard => k_is)
    (case p_l_l_heard => k_is)
    (case p_c_l_heard => k_is)
    (case p_k_l_heard => k_is)
    (case p_a_l_num => k_is)
    (case p_l_l_num => k_is)
    (case p_c_l_num => k_is)
    (case p_k_l_num => k_is)
    (case p_a_l_book_names => k_is)
    (case p_l_l_book_names => k_is)
    (case p_c_l_book_names => k_is)
    (case p_k_l_book_names => k_is)
    (case p_a_l_script_line_gates => k_is)
    (case p_l_l_script_line_gates => k_is)
    (case p_c_l_script_line_gates => k_is)
    (case p_k_l_script_line_gates => k_is)
    (case p_a_l_script_gates => k_is)
    (case p_l_l_script_gates => k_is)
    (case p_c_l_script_gates => k_is)
    (case p_k_l_script_gates => k_is)
    (case p_a_l_script_factor_text => k_is)
    (case p_l_l_script_factor_text => k_is)
    (case p_c_l_script_factor_text => k_is)
    (case p_k_l_script_factor_text => k_is)
    (case p_a_l_script_line_text => k_is)
    (case p_l_l_script_line_text => k_is)
    (case p_c_l_script_line_text => k_is)
    (case p_k_l_script_line_text => k_is)
    (case p_a_l_script_text => k_is)
    (case p_l_l_script_text => k_is)
    (case p_c_l_script_text => k_is)
    (case p_k_l_script_text => k_is)
    (case p_a_l_script_is_word => k_is)
    (case p_l_l_script_is_word => k_is)
    (case p_c_l_script_is_word => k_is)
    (case p_k_l_script_is_word => k_is)
    (case p_a_l_script_is_name => k_is)
    (case p_l_l_script_is_name => k_is)
    (case p_c_l_script_is_name => k_is)
    (case p_k_l_script_is_name => k_is)
    (case p_a_l_script_integer => k_is)
    (case p_l_l_script_integer => k_is)
    (case p_c_l_script_integer => k_is)
    (case p_k_l_script_integer => k_is)
    (case p_a_l_script_factor => k_is)
    (case p_l_l_script_factor => k_is)
    (case p_c_l_script_factor => k_is)
    (case p_k_l_script_factor => k_is)
    (case p_a_l_script_gate => k_is)
    (case p_l_l_script_gate => k_is)
    (case p_c_l_script_gate => k_is)
    (case p_k_l_script_gate => k_is)
    (case p_a_l_script_parts => k_is)
    (case p_l_l_script_parts => k_is)
    (case p_c_l_script_parts => k_is)
    (case p_k_l_script_parts => k_is)
    (case p_a_l_script_name => k_is)
    (case p_l_l_script_name => k_is)
    (case p_c_l_script_name => k_is)
    (case p_k_l_script_name => k_is)
    (case p_a_l_script_factor_drawn => k_is)
    (case p_l_l_script_factor_drawn => k_is)
    (case p_c_l_script_factor_drawn => k_is)
    (case p_k_l_script_factor_drawn => k_is)
    (case p_a_l_script_simple => k_is)
    (case p_l_l_script_simple => k_is)
    (case p_c_l_script_simple => k_is)
    (case p_k_l_script_simple => k_is)
    (case p_a_l_script_some => k_is)
    (case p_l_l_script_some => k_is)
    (case p_c_l_script_some => k_is)
    (case p_k_l_script_some => k_is)
    (case p_a_l_script_try => k_is)
    (case p_l_l_script_try => k_is)
    (case p_c_l_script_try => k_is)
    (case p_k_l_script_try => k_is)
    (case p_a_l_script_size => k_is)
    (case p_l_l_script_size => k_is)
    (case p_c_l_script_size => k_is)
    (case p_k_l_script_size => k_is)
    (case p_a_l_script_drawn => k_is)
    (case p_l_l_script_drawn => k_is)
    (case p_c_l_script_drawn => k_is)
    (case p_k_l_script_drawn => k_is)
    (case p_a_l_around_line => k_is)
    (case p_l_l_around_line => k_is)
    (case p_c_l_around_line => k_is)
    (case p_k_l_around_line => k_is)
    (case p_a_l_odd => k_is)
    (case p_l_l_odd => k_is)
    (case p_c_l_odd => k_is)
    (case p_k_l_odd => k_is)
    (case p_a_l_bent_line => k_is)
    (case p_l_l_bent_line => k_is)
    (case p_c_l_bent_line => k_is)
    (case p_k_l_bent_line => k_is)
    (case p_a_l_bent_text => k_is)
    (case p_l_l_bent_text => k_is)
    (case p_c_l_bent_text => k_is)
    (case p_k_l_bent_text => k_is)
    (case p_a_l_wrong => k_is)
    (case p_l_l_wrong => k_is)
    (case p_c_l_wrong => k_is)
    (case p_k_l_wrong => k_is)
    (case p_a_l_rests => k_is)
    (case p_l_l_rests => k_is)
    (case p_c_l_rests => k_is)
    (case p_k_l_rests => k_is)
    (case p_a_l_heads => k_is)
    (case p_l_l_heads => k_is)
    (case p_c_l_heads => k_is)
    (case p_k_l_heads => k_is)
    (case p_a_l_more_text => k_is)
    (case p_l_l_more_text => k_is)
    (case p_c_l_more_text => k_is)
    (case p_k_l_more_text => k_is)
    (case p_a_l_right => k_is)
    (case p_l_l_right => k_is)
    (case p_c_l_right => k_is)
    (case p_k_l_right => k_is)
    (case p_a_law => k_is)
    (case p_l_law => k_is)
    (case p_c_law => k_is)
    (case p_k_law => k_is)
    (case p_n_ValueError => k_is)
    (case p_n_abs => k_is)
    (case p_n_all => k_is)
    (case p_n_any => k_is)
    (case p_n_bool => k_is)
    (case p_n_enumerate => k_is)
    (case p_n_int => k_is)
    (case p_n_isinstance => k_is)
    (case p_n_len => k_is)
    (case p_n_list => k_is)
    (case p_n_max => k_is)
    (case p_n_min => k_is)
    (case p_n_range => k_is)
    (case p_n_repr => k_is)
    (case p_n_set => k_is)
    (case p_n_sorted => k_is)
    (case p_n_str => k_is)
    (case p_n_sum => k_is)
    (case p_n_tuple => k_is)
    (case p_n_zip => k_is)
    (case p_m_LETTERS => k_is)
    (case p_m_FIGURES => k_is)
    (case p_m_MOST_FIGURES => k_is)
    (case p_m_NO_NAMES => k_is)
    (case p_l_NO_NAMES => k_is)
    (case p_v_NO_NAMES => (repeat (first | exact .nil | refine .cons ⟨_, rfl⟩ ?_)))
    (case p_z_NO_NAMES => decide)
    (case p_m_dig => k_is)
    (case p_m_gcd => k_is)
    (case p_xL_BadScript => k_is)
    (case p_e_saBadScript => k_is)
    (case p_e_exBadScript => k_is)
    (case p_e_tyBadScript => k_is)
    (case p_e_kpBadScript => k_is)
    (case p_e_inBadScript => k_is)
    (case p_e_noBadScript => k_is)
    (case p_e_tI => k_is)
    (case p_e_hn => k_is)
    (case p_e_ht => k_is)
    (case p_g_ex => k_is)
    (case p_g_hd => k_is)
    (case p_g_ty => k_is)
    (case p_o_gaBadScript => k_is)
    (case p_o_ggBadScript => k_is)
    (case p_o_hdBadScript => k_is)
    (case p_o_haBadScript => k_is)
    (case p_o_hmBadScript => k_is)
    (case p_o_sbBadScript => k_is)
    (case p_o_icBadScript => k_is)
    (case p_b_ic => k_is)
    (case p_b_ty => k_is)
    (case p_b_pg => k_is)
    (case p_b_hd => k_is)
    (case p_b_po => k_is)
    (case p_b_sa => k_is)
    (case p_b_mk => k_is)
    (case p_b_kp => k_is)
    (case p_b_n1 => k_is)
    (case p_b_n2 => k_is)
    (case p_b_n3 => k_is)
    (case p_b_n4 => k_is)
    (case p_b_n5 => k_is)
    (case p_b_n6 => k_is)
    (case p_b_ca => k_is)
    (case p_b_ob => k_is)
    (case p_fn_Script_init => k_is)
    (case p_j_hd1 => kernel_rfl)
    (case p_j_no1 => kernel_rfl)
