import PyProof.Rows.All
import Wide.All
import OpenK.AllK
import Wide.FinOn
import HandS.ForMost
import HandS.Exc
import HandS.TryOnly
import HandS.Wide
import HandS.WideBits
import HandS.StrMore
import HandS.Conv
import HandS.Style
import HandS.TupAny
import HandS.NoneIn
import HandS.Codes
import HandS.Zip
import HandS.Small
import HandS.ExcInit
import HandS.ExcIs
import HandS.IsInst
import HandS.RaiseMore
import HandS.Lambda
import HandS.Replace
import HandS.OwnEq
import HandS.EndTab
import KE.KNestM
import PyProof.ReprRoads
import PyProof.InstNe
import PyProof.ListStr
import HandS.ListItems
import KE.IntTextLaws
import HandS.Walk
import HandS.ExcField
import KE.KExcIs
import KE.GoesEnumKw
import KE.KDictList
import HandS.WordsExc
import HandS.Strs
import HandS.Deep
import KE.SortData
import HandS.Star
import PyProof.ReprLen
import PyProof.ReprText
import PyProof.StrLawsRepr
import PySem.Challenge.RW_opengates_k02_whole_renamings
set_option Elab.async false
set_option linter.all false
set_option maxRecDepth 100000
set_option maxHeartbeats 4000000
namespace OG
open PySem PySem.Spec PyProof.Rows L2
def top (i : Nat) : Stmt := PySem.Challenge.pw_opengates_k02_whole_renamings.main.body.getD i (.Pass ⟨0, 0, 0, 0⟩)
abbrev s_is_integer : Stmt := top 2
theorem sc_is_integer : FnScope ["value"] ["value"] (defScope s_is_integer) := ⟨rfl, rfl, rfl, by decide +kernel, rfl, by decide +kernel, by decide +kernel⟩
abbrev s_is_by : Stmt := top 3
theorem sc_is_by : FnScope ["value"] ["value"] (defScope s_is_by) := ⟨rfl, rfl, rfl, by decide +kernel, rfl, by decide +kernel, by decide +kernel⟩
abbrev s_GateError_init : Stmt := inClass (top 5) 0
theorem sc_GateError_init : FnScope ["self", "value"] ["self", "value"] (defScope s_GateError_init) := ⟨rfl, rfl, rfl, by decide +kernel, rfl, by decide +kernel, by decide +kernel⟩
abbrev s_need_one_sort : Stmt := top 11
theorem sc_need_one_sort : FnScope ["one", "other"] ["one", "other"] (defScope s_need_one_sort) := ⟨rfl, rfl, rfl, by decide +kernel, rfl, by decide +kernel, by decide +kernel⟩
abbrev s_integer_of : Stmt := top 15
theorem sc_integer_of : FnScope ["word", "most", "figures"] ["word", "most"] (defScope s_integer_of) := ⟨rfl, rfl, rfl, by decide +kernel, rfl, by decide +kernel, by decide +kernel⟩
abbrev s_is_letters : Stmt := top 16
theorem sc_is_letters : FnScope ["word", "most"] ["word", "most"] (defScope s_is_letters) := ⟨rfl, rfl, rfl, by decide +kernel, rfl, by decide +kernel, by decide +kernel⟩
abbrev s_is_of : Stmt := top 17
theorem sc_is_of : FnScope ["word", "signs", "sign"] ["word", "signs"] (defScope s_is_of) := ⟨rfl, rfl, rfl, by decide +kernel, rfl, by decide +kernel, by decide +kernel⟩
abbrev s_Book_init : Stmt := inClass (top 22) 0
theorem sc_Book_init : FnScope ["self", "text", "by", "weights", "worths"] ["self", "text"] (defScope s_Book_init) := ⟨rfl, rfl, rfl, by decide +kernel, rfl, by decide +kernel, by decide +kernel⟩
abbrev s_Book_len : Stmt := inClass (top 22) 1
theorem sc_Book_len : FnScope ["self"] ["self"] (defScope s_Book_len) := ⟨rfl, rfl, rfl, by decide +kernel, rfl, by decide +kernel, by decide +kernel⟩
abbrev s_Book_contains : Stmt := inClass (top 22) 2
theorem sc_Book_contains : FnScope ["self", "value"] ["self", "value"] (defScope s_Book_contains) := ⟨rfl, rfl, rfl, by decide +kernel, rfl, by decide +kernel, by decide +kernel⟩
abbrev s_Book_eq : Stmt := inClass (top 22) 3
theorem sc_Book_eq : FnScope ["self", "other"] ["self", "other"] (defScope s_Book_eq) := ⟨rfl, rfl, rfl, by decide +kernel, rfl, by decide +kernel, by decide +kernel⟩
abbrev s_Book_weight : Stmt := inClass (top 22) 4
theorem sc_Book_weight : FnScope ["self", "mark"] ["self", "mark"] (defScope s_Book_weight) := ⟨rfl, rfl, rfl, by decide +kernel, rfl, by decide +kernel, by decide +kernel⟩
abbrev s_Book_worth : Stmt := inClass (top 22) 5
theorem sc_Book_worth : FnScope ["self", "kind", "one", "other", "at"] ["self", "kind", "one", "other"] (defScope s_Book_worth) := ⟨rfl, rfl, rfl, by decide +kernel, rfl, by decide +kernel, by decide +kernel⟩
abbrev s_renamings : Stmt := top 23
theorem sc_renamings : FnScope ["one", "other", "found", "_", "longer", "names", "name"] ["one", "other"] (defScope s_renamings) := ⟨rfl, rfl, rfl, by decide +kernel, rfl, by decide +kernel, by decide +kernel⟩
abbrev s_read_book : Stmt := top 24
theorem sc_read_book : FnScope ["text", "rows", "by", "weights", "worths", "number", "row", "words", "word"] ["text"] (defScope s_read_book) := ⟨rfl, rfl, rfl, by decide +kernel, rfl, by decide +kernel, by decide +kernel⟩
abbrev s_read_by : Stmt := top 25
theorem sc_read_by : FnScope ["words", "by"] ["words"] (defScope s_read_by) := ⟨rfl, rfl, rfl, by decide +kernel, rfl, by decide +kernel, by decide +kernel⟩
abbrev s_is_mark : Stmt := top 26
theorem sc_is_mark : FnScope ["words", "by", "weights"] ["words", "by", "weights"] (defScope s_is_mark) := ⟨rfl, rfl, rfl, by decide +kernel, rfl, by decide +kernel, by decide +kernel⟩
abbrev s_is_kind : Stmt := top 27
theorem sc_is_kind : FnScope ["words", "by", "worths", "marks", "word"] ["words", "by", "worths", "marks"] (defScope s_is_kind) := ⟨rfl, rfl, rfl, by decide +kernel, rfl, by decide +kernel, by decide +kernel⟩
abbrev s_is_number : Stmt := top 28
theorem sc_is_number : FnScope ["word", "by", "number"] ["word", "by"] (defScope s_is_number) := ⟨rfl, rfl, rfl, by decide +kernel, rfl, by decide +kernel, by decide +kernel⟩
abbrev s_last_agrees : Stmt := top 29
theorem sc_last_agrees : FnScope ["one", "other", "names", "name", "mark", "kind", "ahead", "its"] ["one", "other", "names"] (defScope s_last_agrees) := ⟨rfl, rfl, rfl, by decide +kernel, rfl, by decide +kernel, by decide +kernel⟩
abbrev s_l_pot : Stmt := top 31
theorem sc_l_pot : FnScope ["script", "place", "cell", "own", "small"] ["script", "place"] (defScope s_l_pot) := ⟨rfl, rfl, rfl, by decide +kernel, rfl, by decide +kernel, by decide +kernel⟩
abbrev s_l_take : Stmt := top 32
theorem sc_l_take : FnScope ["pot", "upto", "digit", "prime", "blend"] ["pot", "upto"] (defScope s_l_take) := ⟨rfl, rfl, rfl, by decide +kernel, rfl, by decide +kernel, by decide +kernel⟩
abbrev s_l_of : Stmt := top 33
theorem sc_l_of : FnScope ["pot", "some"] ["pot", "some"] (defScope s_l_of) := ⟨rfl, rfl, rfl, by decide +kernel, rfl, by decide +kernel, by decide +kernel⟩
abbrev s_l_some : Stmt := top 34
theorem sc_l_some : FnScope ["pot", "pool", "many", "left", "found", "lap"] ["pot", "pool", "many"] (defScope s_l_some) := ⟨rfl, rfl, rfl, by decide +kernel, rfl, by decide +kernel, by decide +kernel⟩
abbrev s_l_cells : Stmt := top 35
theorem sc_l_cells : FnScope ["script", "most"] ["script", "most"] (defScope s_l_cells) := ⟨rfl, rfl, rfl, by decide +kernel, rfl, by decide +kernel, by decide +kernel⟩
abbrev s_l_heard : Stmt := top 36
theorem sc_l_heard : FnScope ["call", "caught", "back", "error"] ["call"] (defScope s_l_heard) := ⟨rfl, rfl, rfl, by decide +kernel, rfl, by decide +kernel, by decide +kernel⟩
abbrev s_l_book_names : Stmt := top 37
theorem sc_l_book_names : FnScope ["pot", "many", "at", "is_alike", "letters", "tellings", "long", "base", "found", "telling", "lap"] ["pot", "many"] (defScope s_l_book_names) := ⟨rfl, rfl, rfl, by decide +kernel, rfl, by decide +kernel, by decide +kernel⟩
abbrev s_l_book_weights : Stmt := top 38
theorem sc_l_book_weights : FnScope ["pot", "by", "many", "is_above", "way", "most", "found", "last", "lap", "weight"] ["pot", "by", "many", "is_above"] (defScope s_l_book_weights) := ⟨rfl, rfl, rfl, by decide +kernel, rfl, by decide +kernel, by decide +kernel⟩
abbrev s_l_book_table : Stmt := top 39
theorem sc_l_book_table : FnScope ["pot", "by", "many", "way", "places", "low", "high", "some", "a", "b", "row", "n"] ["pot", "by", "many"] (defScope s_l_book_table) := ⟨rfl, rfl, rfl, by decide +kernel, rfl, by decide +kernel, by decide +kernel⟩
abbrev s_l_book_twinned : Stmt := top 40
theorem sc_l_book_twinned : FnScope ["own", "one", "other", "tables", "places", "kind", "at", "a", "b"] ["own", "one", "other"] (defScope s_l_book_twinned) := ⟨rfl, rfl, rfl, by decide +kernel, rfl, by decide +kernel, by decide +kernel⟩
abbrev s_l_book_of : Stmt := top 41
theorem sc_l_book_of : FnScope ["pot", "by", "many", "kinds", "is_above", "own", "one", "other", "kind"] ["pot", "by", "many", "kinds", "is_above"] (defScope s_l_book_of) := ⟨rfl, rfl, rfl, by decide +kernel, rfl, by decide +kernel, by decide +kernel⟩
abbrev s_l_book_drawn : Stmt := top 42
theorem sc_l_book_drawn : FnScope ["pot", "bys", "manys", "kinds", "is_above", "by", "many", "names", "own", "tables", "mark", "kind"] ["pot", "bys", "manys", "kinds", "is_above"] (defScope s_l_book_drawn) := ⟨rfl, rfl, rfl, by decide +kernel, rfl, by decide +kernel, by decide +kernel⟩
abbrev s_l_book_text : Stmt := top 43
theorem sc_l_book_text : FnScope ["own", "lines", "mark", "weight", "kind", "rows", "row", "n"] ["own"] (defScope s_l_book_text) := ⟨rfl, rfl, rfl, by decide +kernel, rfl, by decide +kernel, by decide +kernel⟩
abbrev s_l_book_picked : Stmt := top 44
theorem sc_l_book_picked : FnScope ["own", "places", "names", "weights", "tables", "kind", "a", "b"] ["own", "places", "names", "weights"] (defScope s_l_book_picked) := ⟨rfl, rfl, rfl, by decide +kernel, rfl, by decide +kernel, by decide +kernel⟩
abbrev s_l_book_renamed : Stmt := top 45
theorem sc_l_book_renamed : FnScope ["pot", "own", "places", "at"] ["pot", "own"] (defScope s_l_book_renamed) := ⟨rfl, rfl, rfl, by decide +kernel, rfl, by decide +kernel, by decide +kernel⟩
abbrev s_l_book_split : Stmt := top 46
theorem sc_l_book_split : FnScope ["pot", "own", "is_above", "many", "by", "at", "part", "rest", "weights"] ["pot", "own", "is_above"] (defScope s_l_book_split) := ⟨rfl, rfl, rfl, by decide +kernel, rfl, by decide +kernel, by decide +kernel⟩
abbrev s_l_book_changed : Stmt := top 47
theorem sc_l_book_changed : FnScope ["pot", "own", "many", "by", "weights", "tables", "step", "at", "number", "kind", "a", "b", "rows", "row"] ["pot", "own"] (defScope s_l_book_changed) := ⟨rfl, rfl, rfl, by decide +kernel, rfl, by decide +kernel, by decide +kernel⟩
abbrev s_l_book_other : Stmt := top 48
theorem sc_l_book_other : FnScope ["pot", "own", "manys", "is_above", "way"] ["pot", "own", "manys", "is_above"] (defScope s_l_book_other) := ⟨rfl, rfl, rfl, by decide +kernel, rfl, by decide +kernel, by decide +kernel⟩
abbrev s_l_book_called : Stmt := top 49
theorem sc_l_book_called : FnScope ["own", "row", "at"] ["own", "row"] (defScope s_l_book_called) := ⟨rfl, rfl, rfl, by decide +kernel, rfl, by decide +kernel, by decide +kernel⟩
abbrev s_l_orders : Stmt := top 50
theorem sc_l_orders : FnScope ["many", "found", "lap", "later", "row", "at"] ["many"] (defScope s_l_orders) := ⟨rfl, rfl, rfl, by decide +kernel, rfl, by decide +kernel, by decide +kernel⟩
abbrev s_l_is_renaming : Stmt := top 51
theorem sc_l_is_renaming : FnScope ["one", "other", "row", "places", "a", "kind", "mine", "its", "b"] ["one", "other", "row"] (defScope s_l_is_renaming) := ⟨rfl, rfl, rfl, by decide +kernel, rfl, by decide +kernel, by decide +kernel⟩
abbrev s_l_renamings : Stmt := top 52
theorem sc_l_renamings : FnScope ["one", "other", "some", "row"] ["one", "other"] (defScope s_l_renamings) := ⟨rfl, rfl, rfl, by decide +kernel, rfl, by decide +kernel, by decide +kernel⟩
abbrev s_l_other_sort : Stmt := top 53
theorem sc_l_other_sort : FnScope ["pot", "own", "kinds", "by", "way", "fresh", "one"] ["pot", "own"] (defScope s_l_other_sort) := ⟨rfl, rfl, rfl, by decide +kernel, rfl, by decide +kernel, by decide +kernel⟩
abbrev s_l_is_refused : Stmt := top 54
theorem sc_l_is_refused : FnScope ["one", "other", "caught"] ["one", "other"] (defScope s_l_is_refused) := ⟨rfl, rfl, rfl, by decide +kernel, rfl, by decide +kernel, by decide +kernel⟩
abbrev s_l_right : Stmt := top 55
theorem sc_l_right : FnScope ["pot", "own", "other", "one", "far", "near", "mine", "third"] ["pot"] (defScope s_l_right) := ⟨rfl, rfl, rfl, by decide +kernel, rfl, by decide +kernel, by decide +kernel⟩
abbrev s_law : Stmt := top 56
theorem sc_law : FnScope ["script", "place"] ["script"] (defScope s_law) := ⟨rfl, rfl, rfl, by decide +kernel, rfl, by decide +kernel, by decide +kernel⟩
structure Txt (K : PySem.W.Frag) (mg : Str → Option Value) where
  f_is_integer : Addr
  fd_is_integer : FuncData
  F_is_integer : Fun K "is_integer" "is_integer" s_is_integer f_is_integer fd_is_integer
  b_is_integer : Binds K fd_is_integer ["value"] []
  g_is_integer : mg "is_integer" = some (.ref f_is_integer)
  f_is_by : Addr
  fd_is_by : FuncData
  F_is_by : Fun K "is_by" "is_by" s_is_by f_is_by fd_is_by
  b_is_by : Binds K fd_is_by ["value"] []
  g_is_by : mg "is_by" = some (.ref f_is_by)
  f_GateError_init : Addr
  fd_GateError_init : FuncData
  F_GateError_init : Fun K "__init__" "GateError.__init__" s_GateError_init f_GateError_init fd_GateError_init
  b_GateError_init : Binds K fd_GateError_init ["self", "value"] []
  f_need_one_sort : Addr
  fd_need_one_sort : FuncData
  F_need_one_sort : Fun K "need_one_sort" "need_one_sort" s_need_one_sort f_need_one_sort fd_need_one_sort
  b_need_one_sort : Binds K fd_need_one_sort ["one", "other"] []
  g_need_one_sort : mg "need_one_sort" = some (.ref f_need_one_sort)
  f_integer_of : Addr
  fd_integer_of : FuncData
  F_integer_of : Fun K "integer_of" "integer_of" s_integer_of f_integer_of fd_integer_of
  b_integer_of : Binds K fd_integer_of ["word", "most"] []
  g_integer_of : mg "integer_of" = some (.ref f_integer_of)
  f_is_letters : Addr
  fd_is_letters : FuncData
  F_is_letters : Fun K "is_letters" "is_letters" s_is_letters f_is_letters fd_is_letters
  b_is_letters : Binds K fd_is_letters ["word", "most"] []
  g_is_letters : mg "is_letters" = some (.ref f_is_letters)
  f_is_of : Addr
  fd_is_of : FuncData
  F_is_of : Fun K "_is_of" "_is_of" s_is_of f_is_of fd_is_of
  b_is_of : Binds K fd_is_of ["word", "signs"] []
  g_is_of : mg "_is_of" = some (.ref f_is_of)
  f_Book_init : Addr
  fd_Book_init : FuncData
  F_Book_init : Fun K "__init__" "Book.__init__" s_Book_init f_Book_init fd_Book_init
  b_Book_init : Binds K fd_Book_init ["self", "text"] []
  f_Book_len : Addr
  fd_Book_len : FuncData
  F_Book_len : Fun K "__len__" "Book.__len__" s_Book_len f_Book_len fd_Book_len
  b_Book_len : Binds K fd_Book_len ["self"] []
  f_Book_contains : Addr
  fd_Book_contains : FuncData
  F_Book_contains : Fun K "__contains__" "Book.__contains__" s_Book_contains f_Book_contains fd_Book_contains
  b_Book_contains : Binds K fd_Book_contains ["self", "value"] []
  f_Book_eq : Addr
  fd_Book_eq : FuncData
  F_Book_eq : Fun K "__eq__" "Book.__eq__" s_Book_eq f_Book_eq fd_Book_eq
  b_Book_eq : Binds K fd_Book_eq ["self", "other"] []
  f_Book_weight : Addr
  fd_Book_weight : FuncData
  F_Book_weight : Fun K "weight" "Book.weight" s_Book_weight f_Book_weight fd_Book_weight
  b_Book_weight : Binds K fd_Book_weight ["self", "mark"] []
  f_Book_worth : Addr
  fd_Book_worth : FuncData
  F_Book_worth : Fun K "worth" "Book.worth" s_Book_worth f_Book_worth fd_Book_worth
  b_Book_worth : Binds K fd_Book_worth ["self", "kind", "one", "other"] []
  f_renamings : Addr
  fd_renamings : FuncData
  F_renamings : Fun K "renamings" "renamings" s_renamings f_renamings fd_renamings
  b_renamings : Binds K fd_renamings ["one", "other"] []
  g_renamings : mg "renamings" = some (.ref f_renamings)
  f_read_book : Addr
  fd_read_book : FuncData
  F_read_book : Fun K "_read_book" "_read_book" s_read_book f_read_book fd_read_book
  b_read_book : Binds K fd_read_book ["text"] []
  g_read_book : mg "_read_book" = some (.ref f_read_book)
  f_read_by : Addr
  fd_read_by : FuncData
  F_read_by : Fun K "_read_by" "_read_by" s_read_by f_read_by fd_read_by
  b_read_by : Binds K fd_read_by ["words"] []
  g_read_by : mg "_read_by" = some (.ref f_read_by)
  f_is_mark : Addr
  fd_is_mark : FuncData
  F_is_mark : Fun K "_is_mark" "_is_mark" s_is_mark f_is_mark fd_is_mark
  b_is_mark : Binds K fd_is_mark ["words", "by", "weights"] []
  g_is_mark : mg "_is_mark" = some (.ref f_is_mark)
  f_is_kind : Addr
  fd_is_kind : FuncData
  F_is_kind : Fun K "_is_kind" "_is_kind" s_is_kind f_is_kind fd_is_kind
  b_is_kind : Binds K fd_is_kind ["words", "by", "worths", "marks"] []
  g_is_kind : mg "_is_kind" = some (.ref f_is_kind)
  f_is_number : Addr
  fd_is_number : FuncData
  F_is_number : Fun K "_is_number" "_is_number" s_is_number f_is_number fd_is_number
  b_is_number : Binds K fd_is_number ["word", "by"] []
  g_is_number : mg "_is_number" = some (.ref f_is_number)
  f_last_agrees : Addr
  fd_last_agrees : FuncData
  F_last_agrees : Fun K "_last_agrees" "_last_agrees" s_last_agrees f_last_agrees fd_last_agrees
  b_last_agrees : Binds K fd_last_agrees ["one", "other", "names"] []
  g_last_agrees : mg "_last_agrees" = some (.ref f_last_agrees)
  f_l_pot : Addr
  fd_l_pot : FuncData
  F_l_pot : Fun K "_law_pot" "_law_pot" s_l_pot f_l_pot fd_l_pot
  b_l_pot : Binds K fd_l_pot ["script", "place"] []
  g_l_pot : mg "_law_pot" = some (.ref f_l_pot)
  f_l_take : Addr
  fd_l_take : FuncData
  F_l_take : Fun K "_law_take" "_law_take" s_l_take f_l_take fd_l_take
  b_l_take : Binds K fd_l_take ["pot", "upto"] []
  g_l_take : mg "_law_take" = some (.ref f_l_take)
  f_l_of : Addr
  fd_l_of : FuncData
  F_l_of : Fun K "_law_of" "_law_of" s_l_of f_l_of fd_l_of
  b_l_of : Binds K fd_l_of ["pot", "some"] []
  g_l_of : mg "_law_of" = some (.ref f_l_of)
  f_l_some : Addr
  fd_l_some : FuncData
  F_l_some : Fun K "_law_some" "_law_some" s_l_some f_l_some fd_l_some
  b_l_some : Binds K fd_l_some ["pot", "pool", "many"] []
  g_l_some : mg "_law_some" = some (.ref f_l_some)
  f_l_cells : Addr
  fd_l_cells : FuncData
  F_l_cells : Fun K "_law_cells" "_law_cells" s_l_cells f_l_cells fd_l_cells
  b_l_cells : Binds K fd_l_cells ["script", "most"] []
  g_l_cells : mg "_law_cells" = some (.ref f_l_cells)
  f_l_heard : Addr
  fd_l_heard : FuncData
  F_l_heard : Fun K "_law_heard" "_law_heard" s_l_heard f_l_heard fd_l_heard
  b_l_heard : Binds K fd_l_heard ["call"] []
  g_l_heard : mg "_law_heard" = some (.ref f_l_heard)
  f_l_book_names : Addr
  fd_l_book_names : FuncData
  F_l_book_names : Fun K "_law_book_names" "_law_book_names" s_l_book_names f_l_book_names fd_l_book_names
  b_l_book_names : Binds K fd_l_book_names ["pot", "many"] []
  g_l_book_names : mg "_law_book_names" = some (.ref f_l_book_names)
  f_l_book_weights : Addr
  fd_l_book_weights : FuncData
  F_l_book_weights : Fun K "_law_book_weights" "_law_book_weights" s_l_book_weights f_l_book_weights fd_l_book_weights
  b_l_book_weights : Binds K fd_l_book_weights ["pot", "by", "many", "is_above"] []
  g_l_book_weights : mg "_law_book_weights" = some (.ref f_l_book_weights)
  f_l_book_table : Addr
  fd_l_book_table : FuncData
  F_l_book_table : Fun K "_law_book_table" "_law_book_table" s_l_book_table f_l_book_table fd_l_book_table
  b_l_book_table : Binds K fd_l_book_table ["pot", "by", "many"] []
  g_l_book_table : mg "_law_book_table" = some (.ref f_l_book_table)
  f_l_book_twinned : Addr
  fd_l_book_twinned : FuncData
  F_l_book_twinned : Fun K "_law_book_twinned" "_law_book_twinned" s_l_book_twinned f_l_book_twinned fd_l_book_twinned
  b_l_book_twinned : Binds K fd_l_book_twinned ["own", "one", "other"] []
  g_l_book_twinned : mg "_law_book_twinned" = some (.ref f_l_book_twinned)
  f_l_book_of : Addr
  fd_l_book_of : FuncData
  F_l_book_of : Fun K "_law_book_of" "_law_book_of" s_l_book_of f_l_book_of fd_l_book_of
  b_l_book_of : Binds K fd_l_book_of ["pot", "by", "many", "kinds", "is_above"] []
  g_l_book_of : mg "_law_book_of" = some (.ref f_l_book_of)
  f_l_book_drawn : Addr
  fd_l_book_drawn : FuncData
  F_l_book_drawn : Fun K "_law_book_drawn" "_law_book_drawn" s_l_book_drawn f_l_book_drawn fd_l_book_drawn
  b_l_book_drawn : Binds K fd_l_book_drawn ["pot", "bys", "manys", "kinds", "is_above"] []
  g_l_book_drawn : mg "_law_book_drawn" = some (.ref f_l_book_drawn)
  f_l_book_text : Addr
  fd_l_book_text : FuncData
  F_l_book_text : Fun K "_law_book_text" "_law_book_text" s_l_book_text f_l_book_text fd_l_book_text
  b_l_book_text : Binds K fd_l_book_text ["own"] []
  g_l_book_text : mg "_law_book_text" = some (.ref f_l_book_text)
  f_l_book_picked : Addr
  fd_l_book_picked : FuncData
  F_l_book_picked : Fun K "_law_book_picked" "_law_book_picked" s_l_book_picked f_l_book_picked fd_l_book_picked
  b_l_book_picked : Binds K fd_l_book_picked ["own", "places", "names", "weights"] []
  g_l_book_picked : mg "_law_book_picked" = some (.ref f_l_book_picked)
  f_l_book_renamed : Addr
  fd_l_book_renamed : FuncData
  F_l_book_renamed : Fun K "_law_book_renamed" "_law_book_renamed" s_l_book_renamed f_l_book_renamed fd_l_book_renamed
  b_l_book_renamed : Binds K fd_l_book_renamed ["pot", "own"] []
  g_l_book_renamed : mg "_law_book_renamed" = some (.ref f_l_book_renamed)
  f_l_book_split : Addr
  fd_l_book_split : FuncData
  F_l_book_split : Fun K "_law_book_split" "_law_book_split" s_l_book_split f_l_book_split fd_l_book_split
  b_l_book_split : Binds K fd_l_book_split ["pot", "own", "is_above"] []
  g_l_book_split : mg "_law_book_split" = some (.ref f_l_book_split)
  f_l_book_changed : Addr
  fd_l_book_changed : FuncData
  F_l_book_changed : Fun K "_law_book_changed" "_law_book_changed" s_l_book_changed f_l_book_changed fd_l_book_changed
  b_l_book_changed : Binds K fd_l_book_changed ["pot", "own"] []
  g_l_book_changed : mg "_law_book_changed" = some (.ref f_l_book_changed)
  f_l_book_other : Addr
  fd_l_book_other : FuncData
  F_l_book_other : Fun K "_law_book_other" "_law_book_other" s_l_book_other f_l_book_other fd_l_book_other
  b_l_book_other : Binds K fd_l_book_other ["pot", "own", "manys", "is_above"] []
  g_l_book_other : mg "_law_book_other" = some (.ref f_l_book_other)
  f_l_book_called : Addr
  fd_l_book_called : FuncData
  F_l_book_called : Fun K "_law_book_called" "_law_book_called" s_l_book_called f_l_book_called fd_l_book_called
  b_l_book_called : Binds K fd_l_book_called ["own", "row"] []
  g_l_book_called : mg "_law_book_called" = some (.ref f_l_book_called)
  f_l_orders : Addr
  fd_l_orders : FuncData
  F_l_orders : Fun K "_law_orders" "_law_orders" s_l_orders f_l_orders fd_l_orders
  b_l_orders : Binds K fd_l_orders ["many"] []
  g_l_orders : mg "_law_orders" = some (.ref f_l_orders)
  f_l_is_renaming : Addr
  fd_l_is_renaming : FuncData
  F_l_is_renaming : Fun K "_law_is_renaming" "_law_is_renaming" s_l_is_renaming f_l_is_renaming fd_l_is_renaming
  b_l_is_renaming : Binds K fd_l_is_renaming ["one", "other", "row"] []
  g_l_is_renaming : mg "_law_is_renaming" = some (.ref f_l_is_renaming)
  f_l_renamings : Addr
  fd_l_renamings : FuncData
  F_l_renamings : Fun K "_law_renamings" "_law_renamings" s_l_renamings f_l_renamings fd_l_renamings
  b_l_renamings : Binds K fd_l_renamings ["one", "other"] []
  g_l_renamings : mg "_law_renamings" = some (.ref f_l_renamings)
  f_l_other_sort : Addr
  fd_l_other_sort : FuncData
  F_l_other_sort : Fun K "_law_other_sort" "_law_other_sort" s_l_other_sort f_l_other_sort fd_l_other_sort
  b_l_other_sort : Binds K fd_l_other_sort ["pot", "own"] []
  g_l_other_sort : mg "_law_other_sort" = some (.ref f_l_other_sort)
  f_l_is_refused : Addr
  fd_l_is_refused : FuncData
  F_l_is_refused : Fun K "_law_is_refused" "_law_is_refused" s_l_is_refused f_l_is_refused fd_l_is_refused
  b_l_is_refused : Binds K fd_l_is_refused ["one", "other"] []
  g_l_is_refused : mg "_law_is_refused" = some (.ref f_l_is_refused)
  f_l_right : Addr
  fd_l_right : FuncData
  F_l_right : Fun K "_law_right" "_law_right" s_l_right f_l_right fd_l_right
  b_l_right : Binds K fd_l_right ["pot"] []
  g_l_right : mg "_law_right" = some (.ref f_l_right)
  f_law : Addr
  fd_law : FuncData
  F_law : Fun K "law" "law" s_law f_law fd_law
  b_law : Binds K fd_law ["script"] []
  g_law : mg "law" = some (.ref f_law)
  n_ValueError : mg "ValueError" = none
  n_abs : mg "abs" = none
  n_all : mg "all" = none
  n_bool : mg "bool" = none
  n_dict : mg "dict" = none
  n_enumerate : mg "enumerate" = none
  n_int : mg "int" = none
  n_isinstance : mg "isinstance" = none
  n_len : mg "len" = none
  n_list : mg "list" = none
  n_max : mg "max" = none
  n_min : mg "min" = none
  n_range : mg "range" = none
  n_repr : mg "repr" = none
  n_sorted : mg "sorted" = none
  n_str : mg "str" = none
  n_sum : mg "sum" = none
  n_tuple : mg "tuple" = none
  n_zip : mg "zip" = none
  m_LETTERS : ∃ u, mg "LETTERS" = some u ∧ RelV (.str "abcdefghijklmnopqrstuvwxyz") u
  m_FIGURES : ∃ u, mg "FIGURES" = some u ∧ RelV (.str "0123456789") u
  m_GREATEST : ∃ u, mg "GREATEST" = some u ∧ RelV (.int 1000000000000) u
  m_MOST_MARKS : ∃ u, mg "MOST_MARKS" = some u ∧ RelV (.int 4) u
  m_MOST_KINDS : ∃ u, mg "MOST_KINDS" = some u ∧ RelV (.int 3) u
  a_PRIMES : Addr
  m_PRIMES : ∃ u, mg "PRIMES" = some u ∧ RelV (.ref a_PRIMES) u
  sq_PRIMES : ∀ H, SqT K H a_PRIMES ([2, 3, 5, 7, 11, 13, 17, 19, 23, 29, 31, 37, 41, 43, 47, 53, 59, 61, 67, 71, 73, 79, 83, 89, 97].map V.int)
  c_BadBook : Addr
  g_BadBook : mg "BadBook" = some (.ref c_BadBook)
  c_GateError : Addr
  g_GateError : mg "GateError" = some (.ref c_GateError)
  c_Book : Addr
  g_Book : mg "Book" = some (.ref c_Book)
  c_NoMark : Addr
  g_NoMark : mg "NoMark" = some (.ref c_NoMark)
  c_NoKind : Addr
  g_NoKind : mg "NoKind" = some (.ref c_NoKind)
  c_OtherKinds : Addr
  g_OtherKinds : mg "OtherKinds" = some (.ref c_OtherKinds)
end OG
set_option Elab.async false
set_option linter.all false
set_option maxRecDepth 100000
set_option maxHeartbeats 4000000
namespace OG
open PySem PySem.Spec PyProof.Rows L2
section
variable {X : Cx}
def CPowW (i j : Int) : Prop := 0 ≤ j ∧ (Builtin.Int.intBits i : Int) * j ≤ 2 ^ 27
theorem op_powW : OpR X (binaryOp .Pow) (rI CPowW fun i j => .int (i ^ j.toNat)) := opI fun _ _ _ _ _ _ _ hc q => pow_int hc.1 hc.2 q
theorem pow_c {i j : Int} (h : (decide (0 ≤ j) && decide ((Builtin.Int.intBits i : Int) * j ≤ 2 ^ 27)) = true) : CPowW i j := by
  rw [Bool.and_eq_true, decide_eq_true_eq, decide_eq_true_eq] at h
  exact h
theorem pow_64 {i j : Int} (ha : i.natAbs < 2 ^ 64) (h0 : 0 ≤ j) (hn : j ≤ 1000000) : CPowW i j := ⟨h0, bits_mul_le ha h0 hn⟩
def repS (x : Str) (n : Int) : Str := if n < 1 then Str.empty else if (n == 1 || x.length == 0) = true then x else ⟨(List.replicate n.toNat x.cps).foldl (· ++ ·) #[]⟩
theorem op_mulS : OpR X (binaryOp .Mult) (fun x y H Q => ∃ (z : Str) (n : Int), x = .str z ∧ y = .int n ∧ 0 ≤ n ∧ n ≤ 100000 ∧ z.length ≤ 100 ∧ Q (.str (repS z n)) H) := by
  intro pins s σ H x y v u Q I rx ry h
  obtain ⟨z, n, rfl, rfl, h0, h1, h2, q⟩ := h
  obtain ⟨t, rfl⟩ := rx
  obtain ⟨t', rfl⟩ := ry
  have htl : Builtin.Str.tooLong (z.length * n.toNat) = false := by
    have e3 : z.length * n.toNat ≤ 100 * 100000 := Nat.mul_le_mul h2 (by omega)
    have e4 : z.length * n.toNat ≤ sizeLine := Nat.le_trans e3 (by decide)
    show decide (z.length * n.toNat > sizeLine) = false
    exact decide_eq_false (by omega)
  refine PySem.P.mul_str (by simp only [Bool.or_eq_false_iff, decide_eq_false_iff_not]; omega) (fun hn _ => ?_) (fun hn _ => ?_) ?_
  · have e1 : (2 : Int) ^ 63 - 1 ≥ 100 * n := by omega
    have e2 : (100 : Int) ≤ (2 ^ 63 - 1) / n := Int.le_ediv_of_mul_le (by omega) e1
    omega
  · exact htl
  · unfold repS at q
    by_cases c1 : n < 1
    · rw [if_pos c1] at q ⊢
      exact ⟨by decide, .str Str.empty, H, I.tok _, ⟨_, rfl⟩, q⟩
    · rw [if_neg c1] at q ⊢
      by_cases c2 : (n == 1 || z.length == 0) = true
      · rw [if_pos c2] at q ⊢
        exact ⟨.str z, H, I, ⟨_, rfl⟩, q⟩
      · rw [if_neg c2] at q ⊢
        exact ⟨fits_reps htl, .str _, H, I.tok _, ⟨_, rfl⟩, q⟩
end
/-! heaps -/
/-- all but p stays -/
def Kp (p : Addr) (H H' : Hp) : Prop := ∀ b o, b ≠ p → H b = some o → H' b = some o
theorem Kp.refl (p : Addr) (H : Hp) : Kp p H H := fun _ _ _ h => h
theorem Kp.trans {p : Addr} {H H1 H2 : Hp} (a : Kp p H H1) (b : Kp p H1 H2) : Kp p H H2 := fun c o n h => b c o n (a c o n h)
theorem Same.kp {p : Addr} {H H' : Hp} (s : Same H H') : Kp p H H' := fun b o _ h => s b o h
theorem same_new {H : Hp} {p : Addr} {o : HO} (h : H p = none) : Same H (upd H p o) := fun b x e => by
  rw [upd_ne (ne_of_none e h)]
  exact e
theorem kp_self {p : Addr} {H : Hp} {o : HO} : Kp p H (upd H p o) := fun b x n e => by
  rw [upd_ne n]
  exact e
/-- the pot at p, at least k takes left -/
def Pot (k : Nat) (H : Hp) (p : Addr) : Prop := ∃ a b c : Int, H p = some (.lst [.int a, .int b, .int c]) ∧ 0 ≤ a ∧ a < 2 ^ 1000 ∧ 0 ≤ b ∧ b < 2 ^ 61 ∧ 0 ≤ c ∧ c + k ≤ 1000000
theorem Pot.mono {k j : Nat} {H : Hp} {p : Addr} (h : Pot k H p) (e : j ≤ k) : Pot j H p := by
  obtain ⟨a, b, c, h1, h2, h3, h4, h5, h6, h7⟩ := h
  exact ⟨a, b, c, h1, h2, h3, h4, h5, h6, by omega⟩
theorem Pot.same {k : Nat} {H H' : Hp} {p : Addr} (h : Pot k H p) (s : Same H H') : Pot k H' p := by
  obtain ⟨a, b, c, h1, h2⟩ := h
  exact ⟨a, b, c, s _ _ h1, h2⟩
theorem Pot.ex {k : Nat} {H : Hp} {p : Addr} (h : Pot k H p) : ∃ o, H p = some o := by
  obtain ⟨a, b, c, h1, _⟩ := h
  exact ⟨_, h1⟩
/-- a draw's way: the pot has k left, all else stands -/
def Dr (p : Addr) (k : Nat) (H H' : Hp) : Prop := Kp p H H' ∧ Pot k H' p
end OG
set_option Elab.async false
set_option linter.all false
set_option maxRecDepth 100000
set_option maxHeartbeats 4000000
namespace OG
open PySem PySem.Spec PyProof.Rows L2
section
variable {P : Program} {w : World} {K : PySem.W.Frag} {mg : Str → Option Value} {base : Heap}
def spTake : Sp := fun vs H Q _ => ∃ (p : Addr) (u : Int) (k : Nat), vs = [.ref p, .int u] ∧ Pot (k + 1) H p ∧ 0 < u ∧ u < 2 ^ 60 ∧
  ∀ (r : Int) (H' : Hp), 0 ≤ r → r < u → Dr p k H H' → Q (.int r) H'
theorem rix {H : Hp} {p : Addr} {xs : List V} {i : Nat} {v : V} {Q : VK} (h : H p = some (.lst xs)) (hi : xs[i]? = some v) (q : Q v H) : rIxL K (.ref p) (.int (i : Int)) H Q :=
  ⟨p, xs, _, v, rfl, rfl, SqL.of h, atI_nat hi, q⟩
theorem pow3 {x : Int} (h : x.natAbs < 2 ^ 64) : CPowW x 3 := pow_64 h (by decide) (by decide)
theorem ok_l_take (T : Txt K mg) : FnOk P w K mg base CX0 1 T.f_l_take T.fd_l_take ["pot", "upto"] (spTake) := by
  refine T.F_l_take.ok sc_l_take (fun vs H Q E h => ?_) (fun cdv A outer s H vs Q E hr h => ?_)
  · obtain ⟨p, u, k, rfl, _⟩ := h
    rfl
  · obtain ⟨p, u, k, rfl, ⟨a, b, c, hp, a0, a1, b0, b1, c0, c1⟩, u0, u1, q⟩ := h
    refine ⟨_, (pss_cons (ps_if (pt_cmpR op_gt (pe_ix ix_list (pv 0) pe_int (fun _ _ => rfl)) pe_int (nomark _)) (pss_cons (ps_set (i := 2) sc_l_take.nd rfl (Or.inl rfl) (pe_op op_mod (pe_callTy call_int1 (by rfl) T.n_int (by decide +kernel) (pa_cons (pe_ix ix_list (pv 0) pe_int (fun _ _ => rfl)) pa_nil)) (pv 1)))
  (pss_cons (ps_asg (pe_op op_fdivW (pe_ix ix_list (pv 0) pe_int (fun _ _ => rfl)) (pv 1)) (pg_sub (pv 0) pe_int set_list))
  (pss_one (ps_ret (pv 2))))) pss_nil)
  (pss_cons (ps_asg (pe_op op_add (pe_ix ix_list (pv 0) pe_int (fun _ _ => rfl)) pe_int) (pg_sub (pv 0) pe_int set_list))
  (pss_cons (ps_set (i := 3) sc_l_take.nd rfl (Or.inl rfl) (pe_ix ix_list (pe_lst (pa_cons pe_int (pa_cons pe_int (pa_cons pe_int (pa_cons pe_int (pa_cons pe_int pa_nil)))))) (pe_op op_mod (pe_callTy call_int1 (by rfl) T.n_int (by decide +kernel) (pa_cons (pe_ix ix_list (pv 0) pe_int (fun _ _ => rfl)) pa_nil)) pe_int) (fun _ _ => rfl)))
  (pss_cons (ps_set (i := 4) sc_l_take.nd rfl (Or.inl rfl) (pe_op op_mod (pe_callTy call_int1 (by rfl) T.n_int (by decide +kernel) (pa_cons (pe_op op_powW (pe_callTy call_int1 (by rfl) T.n_int (by decide +kernel) (pa_cons (pe_op op_add (pe_op op_add (pe_ix ix_list (pv 0) pe_int (fun _ _ => rfl)) (pe_op op_mulW (pe_op op_mulW pe_int (pe_ix ix_list (pv 0) pe_int (fun _ _ => rfl))) (pe_ix ix_list (pv 0) pe_int (fun _ _ => rfl)))) pe_int) pa_nil)) pe_int) pa_nil)) (pv 3)))
  (pss_cons (ps_set (i := 4) sc_l_take.nd rfl (Or.inl rfl) (pe_op op_mod (pe_callTy call_int1 (by rfl) T.n_int (by decide +kernel) (pa_cons (pe_op op_mulW (pv 4) (pe_op op_add (pe_op op_mod (pe_callTy call_int1 (by rfl) T.n_int (by decide +kernel) (pa_cons (pv 4) pa_nil)) pe_int) (pe_op op_mulW pe_int (pe_ix ix_list (pv 0) pe_int (fun _ _ => rfl))))) pa_nil)) pe_int))
  (pss_one (ps_ret (pe_op op_mod (pe_callTy call_int1 (by rfl) T.n_int (by decide +kernel) (pa_cons (pe_op op_fdivW (pv 4) pe_int) pa_nil)) (pv 1))))))))), ?_⟩
    refine ⟨.ref p, rfl, p, _, 0, _, rfl, rfl, SqL.of hp, rfl, ?_⟩
    refine ⟨a, 0, rfl, rfl, _, rfl, ?_⟩
    refine ite2 (fun ha => ?_) (fun ha => ?_)
    · have ha : 0 < a := of_decide_eq_true ha
      refine ⟨.ref p, rfl, p, _, 0, _, rfl, rfl, SqL.of hp, rfl, ?_⟩
      refine .inl ⟨a, rfl, ?_⟩
      refine ⟨.int u, rfl, a, u, rfl, rfl, u0, ?_⟩
      refine ⟨.ref p, rfl, p, _, 0, _, rfl, rfl, SqL.of hp, rfl, ?_⟩
      refine ⟨.int u, rfl, a, u, rfl, rfl, wide_div (b := 60) u0 (by omega) (by decide) (by decide), ?_⟩
      refine ⟨.ref p, rfl, p, _, 0, 0, rfl, rfl, hp, rfl, ?_⟩
      refine ⟨_, rfl, ?_⟩
      refine q _ _ (Int.emod_nonneg _ (by omega)) (Int.emod_lt_of_pos _ u0) ⟨kp_self, a / u, b, c, upd_same, Int.ediv_nonneg a0 (by omega), ?_, b0, b1, c0, by omega⟩
      exact Int.lt_of_le_of_lt (Int.ediv_le_self _ a0) a1
    · refine ⟨.ref p, rfl, p, _, 2, _, rfl, rfl, SqL.of hp, rfl, ?_⟩
      refine ⟨c, 1, rfl, rfl, ?_⟩
      refine ⟨.ref p, rfl, p, _, 2, 2, rfl, rfl, hp, rfl, ?_⟩
      refine ⟨by decide, fun l hl => ?_⟩
      have npl : p ≠ l := fun e => by
        rw [← e, upd_same] at hl
        cases hl
      have hp1 : (upd (upd H p (.lst [.int a, .int b, .int (c + 1)])) l (.lst [.int 2147483647, .int 2147483629, .int 2147483587, .int 2147483579, .int 2147483563])) p = some (.lst [.int a, .int b, .int (c + 1)]) := by
        rw [upd_ne npl, upd_same]
      refine ⟨.ref p, rfl, p, _, 2, _, rfl, rfl, SqL.of hp1, rfl, ?_⟩
      refine .inl ⟨c + 1, rfl, ?_⟩
      refine ⟨c + 1, 5, rfl, rfl, (by show (0 : Int) < 5; decide), ?_⟩
      have h5 : ∃ (m : Nat) (pr : Int), (c + 1) % 5 = (m : Int) ∧ ([V.int 2147483647, .int 2147483629, .int 2147483587, .int 2147483579, .int 2147483563])[m]? = some (.int pr) ∧ 0 < pr ∧ pr < 2 ^ 31 := by
        have e0 := Int.emod_nonneg (c + 1) (show (5 : Int) ≠ 0 by decide)
        have e1 := Int.emod_lt_of_pos (c + 1) (show (0 : Int) < 5 by decide)
        rcases (show (c + 1) % 5 = 0 ∨ (c + 1) % 5 = 1 ∨ (c + 1) % 5 = 2 ∨ (c + 1) % 5 = 3 ∨ (c + 1) % 5 = 4 by omega) with e | e | e | e | e
        · exact ⟨0, _, e, rfl, by decide, by decide⟩
        · exact ⟨1, _, e, rfl, by decide, by decide⟩
        · exact ⟨2, _, e, rfl, by decide, by decide⟩
        · exact ⟨3, _, e, rfl, by decide, by decide⟩
        · exact ⟨4, _, e, rfl, by decide, by decide⟩
      obtain ⟨m, pr, em, hm, pr0, pr1⟩ := h5
      refine ⟨l, _, (m : Int), _, rfl, congrArg V.int em, SqL.of upd_same, atI_nat hm, ?_⟩
      refine ⟨.ref p, rfl, p, _, 1, _, rfl, rfl, SqL.of hp1, rfl, ?_⟩
      have hc2 : (c + 1) * (c + 1) ≤ 1000000 * 1000000 := Int.mul_le_mul (by omega) (by omega) (by omega) (by decide)
      have hc3 : 0 ≤ (c + 1) * (c + 1) := Int.mul_nonneg (by omega) (by omega)
      refine ⟨.ref p, rfl, p, _, 2, _, rfl, rfl, SqL.of hp1, rfl, ?_⟩
      refine ⟨_, _, rfl, rfl, wide_mul (a := 30) (b := 30) (by decide) (by omega) (by decide) (by decide) (by decide), ?_⟩
      refine ⟨.ref p, rfl, p, _, 2, _, rfl, rfl, SqL.of hp1, rfl, ?_⟩
      refine ⟨_, _, rfl, rfl, wide_mul (a := 60) (b := 30) (by omega) (by omega) (by decide) (by decide) (by decide), ?_⟩
      refine ⟨_, _, rfl, rfl, ?_⟩
      refine ⟨_, _, rfl, rfl, ?_⟩
      refine .inl ⟨_, rfl, ?_⟩
      refine ⟨_, _, rfl, rfl, pow3 ?_, ?_⟩
      · rw [Int.mul_assoc]
        omega
      refine .inl ⟨_, rfl, ?_⟩
      refine ⟨_, rfl, _, _, rfl, rfl, pr0, ?_⟩
      have xb : ∀ y : Int, (y % pr).natAbs < 2 ^ 60 := fun y => by
        have z1 := Int.emod_nonneg y (show pr ≠ 0 by omega)
        have z2 := Int.emod_lt_of_pos y pr0
        omega
      refine ⟨_, rfl, _, rfl, .inl ⟨_, rfl, ?_⟩⟩
      refine ⟨_, 10243, rfl, rfl, (by show (0 : Int) < 10243; decide), ?_⟩
      refine ⟨.ref p, rfl, p, _, 2, _, rfl, rfl, SqL.of hp1, rfl, ?_⟩
      refine ⟨_, _, rfl, rfl, wide_mul (a := 30) (b := 30) (by decide) (by omega) (by decide) (by decide) (by decide), ?_⟩
      refine ⟨_, _, rfl, rfl, ?_⟩
      refine ⟨_, _, rfl, rfl, wide_mul (a := 60) (b := 90) (xb _) (by omega) (by decide) (by decide) (by decide), ?_⟩
      refine .inl ⟨_, rfl, ?_⟩
      refine ⟨_, 2305843009213693907, rfl, rfl, (by show (0 : Int) < 2305843009213693907; decide), ?_⟩
      refine ⟨_, rfl, ?_⟩
      refine ⟨_, _, rfl, rfl, wide_div (b := 60) (by decide) (by decide) (by decide) (by decide), ?_⟩
      refine .inl ⟨_, rfl, ?_⟩
      refine ⟨.int u, rfl, _, _, rfl, rfl, u0, ?_⟩
      refine q _ _ (Int.emod_nonneg _ (by omega)) (Int.emod_lt_of_pos _ u0) ⟨?_, a, b, c + 1, hp1, a0, a1, b0, b1, by omega, by omega⟩
      intro z o nz hz
      have nzl : z ≠ l := fun e => by
        rw [← e, upd_ne nz, hz] at hl
        cases hl
      rw [upd_ne nzl, upd_ne nz]
      exact hz
end
end OG
set_option Elab.async false
set_option linter.all false
set_option maxRecDepth 100000
set_option maxHeartbeats 4000000
namespace OG
open PySem PySem.Spec PyProof.Rows L2
theorem Kp.seq {K : PySem.W.Frag} {p : Addr} {H H' : Hp} {a : Addr} {xs : List V} (e : Kp p H H') (n : a ≠ p) (h : SqL K H a xs) : SqL K H' a xs := by
  rcases h with (h | ⟨o, h⟩) | h
  · exact .inl (.inl (e _ _ n h))
  · exact .inl (.inr ⟨o, e _ _ n h⟩)
  · exact .inr h
theorem Kp.seqT {K : PySem.W.Frag} {p : Addr} {H H' : Hp} {a : Addr} {xs : List V} (e : Kp p H H') (n : a ≠ p) (h : SqT K H a xs) : SqT K H' a xs := by
  rcases h with (h | ⟨o, h⟩) | h
  · exact .inl (.inl (e _ _ n h))
  · exact .inl (.inr ⟨o, e _ _ n h⟩)
  · exact .inr h
theorem Pot.ne {k : Nat} {H : Hp} {p l : Addr} (h : Pot k H p) (n : H l = none) : l ≠ p := fun e => by
  obtain ⟨o, ho⟩ := h.ex
  rw [e, ho] at n
  cases n
theorem Pot.neT {k : Nat} {H : Hp} {p l : Addr} {xs : List V} (h : Pot k H p) (n : H l = some (.tup xs)) : l ≠ p := fun e => by
  obtain ⟨a, b, c, ho, _⟩ := h
  rw [e, ho] at n
  cases n
theorem Pot.neD {k : Nat} {H : Hp} {p l : Addr} {xs : List (Key × V)} (h : Pot k H p) (n : H l = some (.dK xs)) : l ≠ p := fun e => by
  obtain ⟨a, b, c, ho, _⟩ := h
  rw [e, ho] at n
  cases n
theorem Dr.start {k j : Nat} {H : Hp} {p : Addr} (h : Pot k H p) (e : j ≤ k) : Dr p j H H := ⟨Kp.refl _ _, h.mono e⟩
theorem Dr.trans {k j : Nat} {H H1 H2 : Hp} {p : Addr} (a : Dr p k H H1) (b : Dr p j H1 H2) : Dr p j H H2 := ⟨a.1.trans b.1, b.2⟩
theorem Dr.mono {k j : Nat} {H H1 : Hp} {p : Addr} (a : Dr p k H H1) (e : j ≤ k) : Dr p j H H1 := ⟨a.1, a.2.mono e⟩
theorem Dr.fr {k : Nat} {H H' : Hp} {p l : Addr} (d : Dr p k H H') (n : H' l = none) : H l = none := by
  cases e : H l with
  | none => rfl
  | some o =>
    rw [d.1 _ _ (d.2.ne n) e] at n
    cases n
theorem Dr.new {k : Nat} {H H1 : Hp} {p l : Addr} {o : HO} (d : Dr p k H H1) (n : H1 l = none) : Dr p k H (upd H1 l o) :=
  ⟨d.1.trans (Same.kp (same_new n)), d.2.same (same_new n)⟩
theorem Dr.mut {k : Nat} {H H1 : Hp} {p l : Addr} {o : HO} (d : Dr p k H H1) (n : H l = none) (e : l ≠ p) : Dr p k H (upd H1 l o) := by
  refine ⟨fun b x q h => ?_, ?_⟩
  · rw [upd_ne (ne_of_none h n)]
    exact d.1 b x q h
  · obtain ⟨a, b, c, h1, h2⟩ := d.2
    refine ⟨a, b, c, ?_, h2⟩
    rw [upd_ne e.symm]
    exact h1
theorem Dr.st {k : Nat} {H H1 : Hp} {p b : Addr} {o : HO} (d : Dr p k H H1) (n : b ≠ p) (h : H b = some o) : H1 b = some o := d.1 _ _ n h
section
variable {P : Program} {w : World} {K : PySem.W.Frag} {mg : Str → Option Value} {base : Heap}
def spOf (K : PySem.W.Frag) : Sp := fun vs H Q _ => ∃ (p l : Addr) (xs : List V) (k : Nat), vs = [.ref p, .ref l] ∧ Pot (k + 1) H p ∧ SqL K H l xs ∧ l ≠ p ∧ 0 < xs.length ∧ xs.length < 100000 ∧
  ∀ (i : Nat) (x : V) (H' : Hp), xs[i]? = some x → Dr p k H H' → Q x H'
theorem ok_l_of (T : Txt K mg) : FnOk P w K mg base CX0 2 T.f_l_of T.fd_l_of ["pot", "some"] (spOf K) := by
  refine T.F_l_of.ok sc_l_of (fun vs H Q E h => ?_) (fun cdv A outer s H vs Q E hr h => ?_)
  · obtain ⟨p, l, xs, k, rfl, _⟩ := h
    rfl
  · obtain ⟨p, l, xs, k, rfl, hP, hL, nlp, l0, l1, q⟩ := h
    refine ⟨_, (pss_one (ps_ret (pe_ix ix_list (pv 1) (pe_call (ok_l_take T) (hr.mono (by decide)) (by rfl) T.g_l_take T.F_l_take.kp T.b_l_take .nil pass0 (pa_cons (pv 0) (pa_cons (pe_callB call_len_seq (by rfl) T.n_len PySem.boot_len (pa_cons (pv 1) pa_nil)) pa_nil))) (fun _ _ => rfl)))), ?_⟩
    refine ⟨.ref l, rfl, .ref p, rfl, .ref l, rfl, l, _, rfl, .inl hL, ?_⟩
    refine ⟨p, xs.length, k, rfl, hP, by omega, by omega, fun r H' r0 r1 d => ?_⟩
    have hr1 : r.toNat < xs.length := by omega
    have hx : xs[r.toNat]? = some (xs[r.toNat]) := List.getElem?_eq_getElem hr1
    refine ⟨l, xs, (r.toNat : Int), _, rfl, congrArg V.int (by omega), d.1.seq nlp hL, atI_nat hx, q _ _ _ hx d⟩
theorem seq_nat {n k : Nat} (h : k < n) : seqIndex? (k : Int) n = some k := by
  have e0 : ¬ ((k : Int) < 0) := by omega
  have e1 : (k : Int) < (n : Int) := by omega
  have e2 : (0 : Int) ≤ (k : Int) := by omega
  simp only [seqIndex?, if_neg e0, e1, e2, decide_true, Bool.and_self, if_true, Int.toNat_natCast]
def spSome (K : PySem.W.Frag) : Sp := fun vs H Q _ => ∃ (p l : Addr) (xs : List V) (m k : Nat), vs = [.ref p, .ref l, .int (m : Int)] ∧ Pot (k + m) H p ∧ SqL K H l xs ∧ l ≠ p ∧ m ≤ xs.length ∧ xs.length < 1000 ∧
  ∀ (q : Addr) (ys zs : List V) (H' : Hp), ys.length = m → (ys ++ zs).Perm xs → Dr p k H H' → H q = none → q ≠ p → H' q = some (.lst ys) → Q (.ref q) H'
theorem perm_pop {α : Type} : ∀ {ls : List α} {k : Nat} {y : α}, ls[k]? = some y → (y :: ls.eraseIdx k).Perm ls
  | [], k, y, h => by simp at h
  | a :: r, 0, y, h => by
    have e : a = y := Option.some.inj h
    rw [e]
    exact List.Perm.refl _
  | a :: r, k + 1, y, h => by
    have ih := perm_pop (ls := r) (k := k) (y := y) h
    exact (List.Perm.swap a y _).trans (ih.cons a)
theorem ok_l_some (T : Txt K mg) : FnOk P w K mg base CX0 2 T.f_l_some T.fd_l_some ["pot", "pool", "many"] (spSome K) := by
  refine T.F_l_some.ok sc_l_some (fun vs H Q E h => ?_) (fun cdv A outer s H vs Q E hr h => ?_)
  · obtain ⟨p, l, xs, m, k, rfl, _⟩ := h
    rfl
  · obtain ⟨p, l, xs, m, k, rfl, hP, hL, nlp, hm, l1, q⟩ := h
    refine ⟨_, (pss_cons (ps_par (i := 3) (j := 4) (by rfl) sc_l_some.nd rfl rfl (by decide) rfl rfl (pa_cons (pe_callTy call_list_of (by rfl) T.n_list (by decide +kernel) (pa_cons (pv 1) pa_nil)) (pa_cons (pe_lst pa_nil) pa_nil)) (by rfl))
  (pss_cons (ps_for PassesOwn.never rfl (pi_range1 (by rfl) T.n_range (pa_cons (pv 2) pa_nil)) (pg_name (i := 5) sc_l_some.nd rfl (Or.inl rfl)) (pss_one (ps_expr (pe_bm PySem.F.plainAttrs_list PySem.F.slot_list_append PySem.F.type_list_append mt_append (pv 4) (pa_cons (pe_bm PySem.F.plainAttrs_list PySem.F.slot_list_pop PySem.F.type_list_pop mt_popAt (pv 3) (pa_cons (pe_call (ok_l_take T) (hr.mono (by decide)) (by rfl) T.g_l_take T.F_l_take.kp T.b_l_take .nil pass0 (pa_cons (pv 0) (pa_cons (pe_callB call_len_seq (by rfl) T.n_len PySem.boot_len (pa_cons (pv 3) pa_nil)) pa_nil))) pa_nil)) pa_nil)))))
  (pss_one (ps_ret (pv 4))))), ?_⟩
    refine ⟨.ref l, rfl, l, xs, rfl, .inl hL, fun e he => ?_⟩
    refine ⟨Nat.zero_le _, fun o ho => ?_⟩
    refine ⟨_, _, rfl, ?_⟩
    have ho' : H o = none := by
      cases z : H o with
      | none => rfl
      | some u =>
        rw [same_new he _ _ z] at ho
        cases ho
    have neo : o ≠ e := fun z => by
      rw [z, upd_same] at ho
      cases ho
    have nep : e ≠ p := hP.ne he
    have nop : o ≠ p := hP.ne ho'
    refine ⟨.int m, rfl, m, rfl, (by omega), (by omega), ?_⟩
    rw [show ((m : Int)).toNat = m from rfl]
    refine for_range (n := m) (fun i σ H' => ∃ (v : Option V) (ys ls : List V), σ = [some (.ref p), some (.ref l), some (.int m), some (.ref e), some (.ref o), v] ∧ i ≤ m ∧ Dr p (k + (m - i)) H H' ∧ H' e = some (.lst ls) ∧ H' o = some (.lst ys) ∧ (ys ++ ls).Perm xs ∧ ys.length = i)
      ⟨none, [], xs, rfl, Nat.zero_le _, ((Dr.start hP (by omega)).new he).new ho, by rw [upd_ne neo.symm, upd_same], upd_same, List.Perm.refl _, rfl⟩ ?_ ?_
    · rintro i σ H' hi ⟨v, ys, ls, rfl, _, d, h1, h2, pm, hl⟩
      have len := pm.length_eq
      rw [List.length_append] at len
      refine ⟨.ref o, rfl, .inl ⟨rfl, _, SqL.of h2⟩, .ref e, rfl, .inl ⟨rfl, _, SqL.of h1⟩, .ref p, rfl, .ref e, rfl, e, _, rfl, .inl (SqL.of h1), ?_⟩
      refine ⟨p, ls.length, k + (m - (i + 1)), rfl, d.2.mono (by omega), by omega, by omega, fun r H1 r0 r1 d1 => ?_⟩
      have hr1 : r.toNat < ls.length := by omega
      have hx : ls[r.toNat]? = some (ls[r.toNat]) := List.getElem?_eq_getElem hr1
      refine ⟨e, ls, r, r.toNat, _, rfl, rfl, d1.st nep h1, by omega, by omega, ?_, hx, ?_⟩
      · have z := seq_nat (n := ls.length) (k := r.toNat) hr1
        rw [show ((r.toNat : Nat) : Int) = r by omega] at z
        exact z
      refine ⟨o, ys, _, rfl, rfl, by rw [upd_ne neo]; exact d1.st nop h2, small1000 (by omega), ?_⟩
      refine ⟨_, ys ++ [ls[r.toNat]], ls.eraseIdx r.toNat, rfl, hi, (((d.trans d1).mut he nep).mut ho' nop), by rw [upd_ne neo.symm, upd_same], upd_same, ?_, by rw [List.length_append, hl]; rfl⟩
      rw [List.append_assoc]
      exact ((perm_pop hx).append_left ys).trans pm
    · rintro σ H' ⟨v, ys, ls, rfl, _, d, h1, h2, pm, hl⟩
      rw [Nat.sub_self] at d
      exact ⟨_, rfl, q o ys ls H' hl pm d ho' nop h2⟩
end
end OG
set_option Elab.async false
set_option linter.all false
set_option maxRecDepth 100000
set_option maxHeartbeats 4000000
namespace OG
open PySem PySem.Spec PyProof.Rows L2
def sgn (c : Nat) : V := .str ⟨#[c]⟩
def rListT : List V → Hp → VK → Prop := fun xs H Q => ∃ z : Str, xs = [.str z] ∧ z.length ≤ sizeLine ∧ ∀ q, H q = none → Q (.ref q) (upd H q (.lst (z.cps.toList.map sgn)))
theorem call_list_text {X : Cx} (hc : X.calm = true) : CallR X (.type "list") rListT := by
  intro pins s σ H xs us Q I r h
  obtain ⟨z, e, hz, q⟩ := h
  subst e
  obtain ⟨u, eu, rx⟩ := vals1 r
  subst eu
  obtain ⟨t, rfl⟩ := rx
  have hz' : z.cps.size ≤ sizeLine := hz
  refine PySem.call_list_str (hn := hz') (I.ok.hd hc) z t fun h' tk acc' c' hkeep hS hacc => ?_
  refine ⟨.ref s.heap.objs.size, upd H s.heap.objs.size (.lst (z.cps.toList.map sgn)), I.laid hkeep (Nat.le_refl _) (show ObjOk X.prog X.w _ _ _ (.lst (z.cps.toList.map sgn)) from ⟨?_, acc'.toList, c', ?_, ?_⟩), rfl, q _ (I.hok.fresh (Nat.le_refl _))⟩
  · rw [List.length_map, Array.length_toList]; exact hz'
  · have el : acc'.toList.length = acc'.size := by simp
    refine vals_of_at (by rw [List.length_map, el, hacc.1, Array.length_toList]) fun j x w h1 h2 => ?_
    have hi := hacc.2 j w (by rw [← Array.getElem?_toList]; exact h2)
    obtain ⟨c, u, hc1, rfl⟩ := hi
    rw [List.getElem?_map, Array.getElem?_toList, hc1] at h1
    have e1 : sgn c = x := Option.some.inj h1
    rw [← e1]
    exact ⟨u, rfl⟩
  · rw [Array.toArray_toList]; exact hS
end OG
set_option Elab.async false
set_option linter.all false
set_option maxRecDepth 100000
set_option maxHeartbeats 4000000
namespace OG
open PySem PySem.Spec PyProof.Rows L2
/-! names: mathematics -/
def mk (l : List Nat) : Str := ⟨l.toArray⟩
theorem mk_tl (l : List Nat) : (mk l).cps.toList = l := by simp [mk]
theorem mk_len (l : List Nat) : (mk l).length = l.length := by simp [mk, Str.length]
theorem tl_mk (z : Str) : mk z.cps.toList = z := by
  unfold mk
  rw [Array.toArray_toList]
theorem mk_inj {a b : List Nat} (h : mk a = mk b) : a = b := by
  have e := congrArg (fun z : Str => z.cps.toList) h
  simpa [mk] using e
theorem sgn_mk (c : Nat) : sgn c = .str (mk [c]) := rfl
theorem sgn_inj {a b : Nat} (h : sgn a = sgn b) : a = b := by
  have e := mk_inj (V.str.inj h)
  exact List.head_eq_of_cons_eq e
def abc : List Nat := [97, 98, 99, 100, 101, 102, 103, 104, 105, 106, 107, 108, 109, 110, 111, 112, 113, 114, 115, 116, 117, 118, 119, 120, 121, 122]
theorem abc_tl : ("abcdefghijklmnopqrstuvwxyz" : Str).cps.toList = abc := by decide +kernel
theorem map_sgn_pick : ∀ {ys : List V}, (∀ y ∈ ys, y ∈ abc.map sgn) → ∃ cs : List Nat, ys = cs.map sgn ∧ ∀ c ∈ cs, c ∈ abc
  | [], _ => ⟨[], rfl, fun _ h => by cases h⟩
  | y :: r, h => by
    obtain ⟨cs, e, k⟩ := map_sgn_pick (ys := r) fun z hz => h z (List.mem_cons_of_mem _ hz)
    obtain ⟨c, hc, hy⟩ := List.mem_map.mp (h y List.mem_cons_self)
    refine ⟨c :: cs, by rw [e, ← hy]; rfl, fun z hz => ?_⟩
    rcases List.mem_cons.mp hz with q | q
    · rw [q]; exact hc
    · exact k z q
theorem abc_nodup : (abc.map sgn).Nodup := by
  have h : abc.Nodup := by decide
  unfold List.Nodup at h ⊢
  rw [List.pairwise_map]
  exact h.imp fun n e => n (sgn_inj e)
theorem pick {ys zs : List V} (pm : (ys ++ zs).Perm (abc.map sgn)) : ∃ cs : List Nat, ys = cs.map sgn ∧ cs.Nodup ∧ ∀ c ∈ cs, c ∈ abc := by
  obtain ⟨cs, e, k⟩ := map_sgn_pick (ys := ys) fun y hy => pm.mem_iff.mp (List.mem_append_left _ hy)
  have nd : (ys ++ zs).Nodup := pm.nodup_iff.mpr abc_nodup
  have n1 : ys.Nodup := (List.nodup_append.mp nd).1
  rw [e] at n1
  refine ⟨cs, e, ?_, k⟩
  unfold List.Nodup at n1 ⊢
  rw [List.pairwise_map] at n1
  exact n1.imp fun n q => n (congrArg sgn q)
/-- a NAME of a book -/
def IsNm (z : Str) : Prop := 1 ≤ z.length ∧ z.length ≤ 4 ∧ ∀ c ∈ z.cps.toList, c ∈ abc
def nm (bs : List Nat) (at_ c : Nat) : List Nat := bs.take at_ ++ c :: bs.drop (at_ + 1)
theorem nm_len {bs : List Nat} {a c : Nat} (h : a < bs.length) : (nm bs a c).length = bs.length := by
  unfold nm
  rw [List.length_append, List.length_cons, List.length_take, List.length_drop]
  omega
theorem nm_at {bs : List Nat} {a c : Nat} (h : a < bs.length) : (nm bs a c)[a]? = some c := by
  unfold nm
  rw [List.getElem?_append_right (by rw [List.length_take]; omega), List.length_take, show a - min a bs.length = 0 by omega]
  rfl
theorem nm_mem {bs : List Nat} {a c z : Nat} (hb : ∀ x ∈ bs, x ∈ abc) (hc : c ∈ abc) (h : z ∈ nm bs a c) : z ∈ abc := by
  unfold nm at h
  rcases List.mem_append.mp h with h | h
  · exact hb _ (List.mem_of_mem_take h)
  · rcases List.mem_cons.mp h with h | h
    · rw [h]; exact hc
    · exact hb _ (List.mem_of_mem_drop h)
theorem nm_is {bs : List Nat} {a c : Nat} (hb : ∀ x ∈ bs, x ∈ abc) (hc : c ∈ abc) (h : a < bs.length) (h4 : bs.length ≤ 4) : IsNm (mk (nm bs a c)) := by
  refine ⟨?_, ?_, fun z hz => ?_⟩
  · rw [mk_len, nm_len h]; omega
  · rw [mk_len, nm_len h]; exact h4
  · rw [mk_tl] at hz
    exact nm_mem hb hc hz
theorem joinL_ones : ∀ l : List Nat, TL.joinL [] (l.map fun c => [c]) = l
  | [] => rfl
  | [_] => rfl
  | a :: b :: r => by
    show [a] ++ ([] ++ TL.joinL [] ((b :: r).map fun c => [c])) = a :: b :: r
    rw [joinL_ones (b :: r)]
    rfl
theorem join_ones (l : List Nat) : Txt.join "" (l.map fun c => mk [c]) = mk l := by
  have e := TL.tl_join "" (l.map fun c => mk [c])
  have e2 : (l.map fun c => mk [c]).map TL.tl = l.map fun c => [c] := by
    rw [List.map_map]
    rfl
  rw [e2] at e
  have e3 : TL.tl "" = [] := rfl
  rw [e3, joinL_ones] at e
  have e4 := (congrArg TL.tl (TL.join_eq "" (l.map fun c => mk [c]))).trans e
  exact TL.ext_tl (e4.trans (mk_tl l).symm)
theorem cut_to {xs : List V} {n : Nat} : cutV xs none (some (n : Int)) = xs.take n := by
  unfold cutV
  rw [HT.sIx_none, HT.sIx_nat, List.drop_zero, Nat.sub_zero]
  rw [List.take_eq_take_iff]
  omega
theorem cut_from {xs : List V} {n : Nat} : cutV xs (some (n : Int)) none = xs.drop n := by
  unfold cutV
  rw [HT.sIx_none, HT.sIx_nat]
  by_cases h : n ≤ xs.length
  · rw [Nat.min_eq_left h]
    exact List.take_of_length_le (by rw [List.length_drop]; exact Nat.le_refl _)
  · rw [Nat.min_eq_right (by omega), List.drop_eq_nil_of_le (Nat.le_refl _), List.drop_eq_nil_of_le (by omega)]
    simp
/-- what book_names tells -/
structure Nms (ns : List Str) (m : Nat) : Prop where
  len : ns.length = m
  nd : ns.Nodup
  is : ∀ z ∈ ns, IsNm z
theorem nms_of {cs : List Nat} {ns : List Str} {a : Nat} (h1 : cs.Nodup) (h2 : ns.length = cs.length) (h3 : ∀ (i : Nat) (z : Str), ns[i]? = some z → z.cps.toList[a]? = cs[i]?) (h4 : ∀ z ∈ ns, IsNm z) : Nms ns cs.length := by
  refine ⟨h2, ?_, h4⟩
  have e : ns.map (fun z => z.cps.toList[a]?) = cs.map some := by
    refine List.ext_getElem? fun i => ?_
    rw [List.getElem?_map, List.getElem?_map]
    cases q : ns[i]? with
    | none =>
      have q1 : cs[i]? = none := by
        rw [List.getElem?_eq_none_iff] at q ⊢
        omega
      rw [q1]
      rfl
    | some z =>
      have q1 : i < cs.length := by
        have := (List.getElem?_eq_some_iff.mp q).1
        omega
      show some (z.cps.toList[a]?) = _
      rw [h3 i z q, List.getElem?_eq_getElem q1]
      rfl
  have n2 : (ns.map (fun z => z.cps.toList[a]?)).Nodup := by
    rw [e]
    unfold List.Nodup at h1 ⊢
    rw [List.pairwise_map]
    exact h1.imp fun n q => n (Option.some.inj q)
  unfold List.Nodup at n2 ⊢
  rw [List.pairwise_map] at n2
  exact n2.imp fun n q => n (congrArg (fun z : Str => z.cps.toList[a]?) q)
end OG
set_option Elab.async false
set_option linter.all false
set_option maxRecDepth 100000
set_option maxHeartbeats 4000000
namespace OG
open PySem PySem.Spec PyProof.Rows L2
section
variable {P : Program} {w : World} {K : PySem.W.Frag} {mg : Str → Option Value} {base : Heap}
def spNames : Sp := fun vs H Q _ => ∃ (p : Addr) (m k : Nat), vs = [.ref p, .int (m : Int)] ∧ Pot (k + 100) H p ∧ m ≤ 5 ∧
  ∀ (q : Addr) (ns : List Str) (H' : Hp), Nms ns m → Dr p k H H' → H q = none → q ≠ p → H' q = some (.tup (ns.map V.str)) → Q (.ref q) H'
theorem ne_new {H : Hp} {p l : Addr} {o : HO} (h : (upd H l o) p = none) : p ≠ l := fun z => by
  rw [z, upd_same] at h
  cases h
theorem ok_l_book_names (T : Txt K mg) : FnOk P w K mg base CX0 3 T.f_l_book_names T.fd_l_book_names ["pot", "many"] (spNames) := by
  refine T.F_l_book_names.ok sc_l_book_names (fun vs H Q E h => ?_) (fun cdv A outer s H vs Q E hr h => ?_)
  · obtain ⟨p, m, k, rfl, _⟩ := h
    rfl
  · obtain ⟨p, m, k, rfl, hP, hm, q⟩ := h
    refine ⟨_, (pss_cons (ps_par (i := 2) (j := 3) (by rfl) sc_l_book_names.nd rfl rfl (by decide) rfl rfl (pa_cons (pe_call (ok_l_take T) (hr.mono (by decide)) (by rfl) T.g_l_take T.F_l_take.kp T.b_l_take .nil pass0 (pa_cons (pv 0) (pa_cons pe_int pa_nil))) (pa_cons (pe_cmpR op_eq (pe_call (ok_l_take T) (hr.mono (by decide)) (by rfl) T.g_l_take T.F_l_take.kp T.b_l_take .nil pass0 (pa_cons (pv 0) (pa_cons pe_int pa_nil))) pe_int (nomark _)) pa_nil)) (by rfl))
  (pss_cons (ps_set (i := 4) sc_l_book_names.nd rfl (Or.inr rfl) (pe_callTy (call_list_text rfl) (by rfl) T.n_list (by decide +kernel) (pa_cons pe_str pa_nil)))
  (pss_cons (ps_par (i := 5) (j := 6) (by rfl) sc_l_book_names.nd rfl rfl (by decide) rfl rfl (pa_cons (pe_call (ok_l_some T) (hr.mono (by decide)) (by rfl) T.g_l_some T.F_l_some.kp T.b_l_some .nil pass0 (pa_cons (pv 0) (pa_cons (pv 4) (pa_cons (pv 1) pa_nil)))) (pa_cons (pe_op op_add (pe_op op_add (pv 2) pe_int) (pe_call (ok_l_take T) (hr.mono (by decide)) (by rfl) T.g_l_take T.F_l_take.kp T.b_l_take .nil pass0 (pa_cons (pv 0) (pa_cons (pe_op op_sub pe_int (pv 2)) pa_nil)))) pa_nil)) (by rfl))
  (pss_cons (ps_par (i := 7) (j := 8) (by rfl) sc_l_book_names.nd rfl rfl (by decide) rfl rfl (pa_cons (pe_lc (own := [("lap", 10)]) (g := gName 10) (by rfl) sc_l_book_names.nd (pi_range1 (by rfl) T.n_range (pa_cons (pv 6) pa_nil)) (blkOk_by (own := [("lap", 10)]) (by rfl)) (fun _ _ _ _ _ => (pg_name (i := 10) sc_l_book_names.nd rfl (Or.inl rfl))) (fun _ _ _ _ _ => pts_nil) (fun _ _ _ _ _ => (pe_call (ok_l_of T) (hr.mono (by decide)) (by rfl) T.g_l_of T.F_l_of.kp T.b_l_of .nil pass0 (pa_cons (pv 0) (pa_cons (pv 4) pa_nil))))) (pa_cons (pe_lst pa_nil) pa_nil)) (by rfl))
  (pss_cons (ps_for PassesOwn.never rfl (pi_list (pv 5)) (pg_name (i := 9) sc_l_book_names.nd rfl (Or.inl rfl)) (pss_cons (ps_if (pt_not (pt_val (pv 3))) (pss_one (ps_setLc (i := 7) (own := [("lap", 10)]) (g := gName 10) (by rfl) sc_l_book_names.nd rfl rfl (sw_true rfl rfl rfl (by decide +kernel)) (pi_range1 (by rfl) T.n_range (pa_cons (pe_op op_add (pe_op op_add (pv 2) pe_int) (pe_call (ok_l_take T) (hr.mono (by decide)) (by rfl) T.g_l_take T.F_l_take.kp T.b_l_take .nil pass0 (pa_cons (pv 0) (pa_cons (pe_op op_sub pe_int (pv 2)) pa_nil)))) pa_nil)) (blkOk_by (own := [("lap", 10)]) (by rfl)) (fun _ _ _ _ _ => (pg_name (i := 10) sc_l_book_names.nd rfl (Or.inl rfl))) (fun _ _ _ _ _ => pts_nil) (fun _ _ _ _ _ => (pe_call (ok_l_of T) (hr.mono (by decide)) (by rfl) T.g_l_of T.F_l_of.kp T.b_l_of .nil pass0 (pa_cons (pv 0) (pa_cons (pv 4) pa_nil)))))) pss_nil)
  (pss_one (ps_expr (pe_bm PySem.F.plainAttrs_list PySem.F.slot_list_append PySem.F.type_list_append mt_append (pv 8) (pa_cons (pe_join pe_str (pe_op op_cat (pe_op op_cat (pe_slice sl_list (pv 7) po_none (po_some (pv 2))) (pe_lst (pa_cons (pv 9) pa_nil))) (pe_slice sl_list (pv 7) (po_some (pe_op op_add (pv 2) pe_int)) po_none))) pa_nil))))))
  (pss_one (ps_ret (pe_callTy call_tuple_of (by rfl) T.n_tuple (by decide +kernel) (pa_cons (pv 8) pa_nil))))))))), ?_⟩
    refine ⟨.ref p, rfl, p, 4, k + 99, rfl, hP, by decide, by decide, fun ai H1 a0 a1 d1 => ?_⟩
    refine ⟨.ref p, rfl, p, 2, k + 98, rfl, d1.2, by decide, by decide, fun r2 H2 _ _ d2 => ?_⟩
    refine ⟨rfl, _, _, rfl, ?_⟩
    have d2 := d1.trans d2
    obtain ⟨a, rfl⟩ : ∃ a : Nat, ai = (a : Int) := ⟨ai.toNat, by omega⟩
    generalize decide (V.int r2 = V.int 0) = alike
    refine ⟨_, rfl, by decide, fun lt hlt => ?_⟩
    rw [abc_tl]
    have d3 := d2.new (o := .lst (abc.map sgn)) hlt
    have nlp : lt ≠ p := d2.2.ne hlt
    refine ⟨.ref p, rfl, .ref lt, rfl, .int m, rfl, p, lt, abc.map sgn, m, k + 93, rfl, d3.2.mono (by omega), SqL.of upd_same, nlp, Nat.le_trans hm (by decide), by decide, fun tq ys zs H4 hl pm d4 ntq nqp htq => ?_⟩
    obtain ⟨cs, rfl, nd, hcs⟩ := pick pm
    rw [List.length_map] at hl
    have d34 := d3.trans d4
    refine ⟨.int a, rfl, _, _, rfl, rfl, .ref p, rfl, .int a, rfl, _, _, rfl, rfl, p, 4 - (a : Int), k + 92, rfl, d4.2, by omega, by omega, fun b H5 b0 b1 d5 => ?_⟩
    refine ⟨_, _, rfl, rfl, _, _, rfl, ?_⟩
    obtain ⟨n, hn⟩ : ∃ n : Nat, (a : Int) + 1 + b = (n : Int) := ⟨((a : Int) + 1 + b).toNat, by omega⟩
    have hn4 : a < n ∧ n ≤ 4 := by omega
    have hlt5 : H5 lt = some (.lst (abc.map sgn)) := d5.st nlp (d4.st nlp upd_same)
    have htq5 : H5 tq = some (.lst (cs.map sgn)) := d5.st nqp htq
    refine ⟨_, rfl, (n : Int), congrArg (fun z => [V.int z]) hn, (by omega), (by omega), fun D hD => ?_⟩
    have d05 := d34.trans d5
    refine lc_range (lo := 0) (n := n) (fun i H' => i ≤ n ∧ Dr p (k + 92 - i) H5 H' ∧ ∃ bs : List Nat, H' D = some (.lst (bs.map sgn)) ∧ bs.length = i ∧ ∀ c ∈ bs, c ∈ abc) ⟨Nat.zero_le _, (Dr.start d5.2 (by omega)).new hD, [], upd_same, rfl, fun _ h => by cases h⟩ ?_ ?_
    · rintro i H' hi ⟨_, d6, bs, hbs, hbl, hba⟩
      refine ⟨rfl, ?_⟩
      have nDp : D ≠ p := d5.2.ne hD
      refine ⟨.ref p, rfl, .ref lt, rfl, p, lt, abc.map sgn, k + 92 - (i + 1), rfl, d6.2.mono (by omega), SqL.of (d6.st nlp hlt5), nlp, by decide, by decide, fun j x H7 hx d7 => ?_⟩
      rw [List.getElem?_map] at hx
      cases e : abc[j]? with
      | none =>
        rw [e] at hx
        cases hx
      | some c =>
        rw [e] at hx
        have ex : sgn c = x := Option.some.inj hx
        refine ⟨bs.map sgn, d7.st nDp hbs, by rw [List.length_map]; exact small1000 (by omega), hi, (d6.trans d7).mut hD nDp, bs ++ [c], ?_, by rw [List.length_append, hbl]; rfl, fun z hz => ?_⟩
        · rw [upd_same, List.map_append, ← ex]
          rfl
        · rcases List.mem_append.mp hz with z1 | z1
          · exact hba _ z1
          · rw [List.mem_singleton.mp z1]
            exact List.mem_of_getElem? e
    · rintro H6 ⟨_, d6, bs, hbs, hbl, hba⟩
      have nDp : D ≠ p := d5.2.ne hD
      refine ⟨Nat.zero_le _, fun F hF => ?_⟩
      refine ⟨_, _, rfl, ?_⟩
      have hF5 : H5 F = none := d6.fr hF
      have nFp : F ≠ p := d6.2.ne hF
      have nDF : D ≠ F := ne_of_none hbs hF
      refine ⟨.ref tq, rfl, tq, rfl, ⟨_, SqL.of (by rw [upd_ne (ne_of_none (d6.st nqp htq5) hF)]; exact d6.st nqp htq5)⟩, ?_⟩
      refine for_list (K := K) (a := tq) (xs := cs.map sgn) (fun i σ H' => ∃ (D : Addr) (bs : List Nat) (v9 v10 : Option V) (ns : List Str), σ = [some (.ref p), some (.int m), some (.int a), some (.bl alike), some (.ref lt), some (.ref tq), some (.int ((a : Int) + 1 + b)), some (.ref D), some (.ref F), v9, v10] ∧ i ≤ m ∧ Dr p (k + 60 - 10 * i) H5 H' ∧
          H' D = some (.lst (bs.map sgn)) ∧ D ≠ p ∧ H5 D = none ∧ D ≠ F ∧ a < bs.length ∧ bs.length ≤ 4 ∧ (∀ c ∈ bs, c ∈ abc) ∧ H' F = some (.lst (ns.map V.str)) ∧ ns.length = i ∧ (∀ (j : Nat) (z : Str), ns[j]? = some z → z.cps.toList[a]? = cs[j]?) ∧ ∀ z ∈ ns, IsNm z)
        ⟨D, bs, none, none, [], rfl, Nat.zero_le _, (d6.new hF).mono (by omega), by rw [upd_ne nDF]; exact hbs, nDp, hD, nDF, by omega, by omega, hba, upd_same, rfl, fun j z h => by simp at h, fun _ h => by cases h⟩ ?_ ?_ ?_
      · rintro i σ H' _ ⟨D, bs, v9, v10, ns, rfl, _, d, _⟩
        exact SqL.of (d.st nqp htq5)
      · rintro i x σ H' hx ⟨D, bs, v9, v10, ns, rfl, hi, d, hD, nDp, nD5, nDF, ha, hb4, hba, hF, hnl, hnat, hnis⟩
        obtain ⟨c, hci, rfl⟩ : ∃ c, cs[i]? = some c ∧ x = sgn c := by
          rw [List.getElem?_map] at hx
          cases e : cs[i]? with
          | none =>
            rw [e] at hx
            cases hx
          | some c =>
            rw [e] at hx
            exact ⟨c, rfl, (Option.some.inj hx).symm⟩
        have hi5 : i < m := by
          have := (List.getElem?_eq_some_iff.mp hci).1
          omega
        refine ⟨_, rfl, alike, rfl, ?_⟩
        refine ite2 (fun _ => ?_) (fun _ => ?_)
        · -- base = [_law_of(pot, letters) for lap in range(at + 1 + _law_take(pot, 4 - at))]
          refine ⟨.int a, rfl, _, _, rfl, rfl, .ref p, rfl, .int a, rfl, _, _, rfl, rfl, p, 4 - (a : Int), k + 60 - 10 * i - 1, rfl, d.2.mono (by omega), by omega, by omega, fun b2 H8 c0 c1 d8 => ?_⟩
          obtain ⟨n2, hn2⟩ : ∃ n : Nat, (a : Int) + 1 + b2 = (n : Int) := ⟨((a : Int) + 1 + b2).toNat, by omega⟩
          have hn24 : a < n2 ∧ n2 ≤ 4 := by omega
          have d58 := d.trans d8
          have hlt8 : H8 lt = some (.lst (abc.map sgn)) := d58.st nlp hlt5
          have hF8 : H8 F = some (.lst (ns.map V.str)) := d8.st nFp hF
          refine ⟨_, _, rfl, rfl, (n2 : Int), congrArg (fun z => [V.int z]) hn2, (by omega), (by omega), fun D2 hD2 => ?_⟩
          have nDp2 : D2 ≠ p := d8.2.ne hD2
          have nDF2 : D2 ≠ F := fun z => by
            rw [z, hF8] at hD2
            cases hD2
          have nD25 : H5 D2 = none := d58.fr hD2
          refine lc_range (lo := 0) (n := n2) (fun i2 H' => i2 ≤ n2 ∧ Dr p (k + 60 - 10 * i - 1 - i2) H8 H' ∧ ∃ bs : List Nat, H' D2 = some (.lst (bs.map sgn)) ∧ bs.length = i2 ∧ ∀ c ∈ bs, c ∈ abc) ⟨Nat.zero_le _, (Dr.start d8.2 (by omega)).new hD2, [], upd_same, rfl, fun _ h => by cases h⟩ ?_ ?_
          · rintro i2 H' hi2 ⟨_, d6, bs, hbs, hbl, hba⟩
            refine ⟨rfl, ?_⟩
            refine ⟨.ref p, rfl, .ref lt, rfl, p, lt, abc.map sgn, k + 60 - 10 * i - 1 - (i2 + 1), rfl, d6.2.mono (by omega), SqL.of (d6.st nlp hlt8), nlp, by decide, by decide, fun j x H7 hx d7 => ?_⟩
            rw [List.getElem?_map] at hx
            cases e : abc[j]? with
            | none =>
              rw [e] at hx
              cases hx
            | some c =>
              rw [e] at hx
              have ex : sgn c = x := Option.some.inj hx
              refine ⟨bs.map sgn, d7.st nDp2 hbs, by rw [List.length_map]; exact small1000 (by omega), hi2, (d6.trans d7).mut hD2 nDp2, bs ++ [c], ?_, by rw [List.length_append, hbl]; rfl, fun z hz => ?_⟩
              · rw [upd_same, List.map_append, ← ex]
                rfl
              · rcases List.mem_append.mp hz with z1 | z1
                · exact hba _ z1
                · rw [List.mem_singleton.mp z1]
                  exact List.mem_of_getElem? e
          rintro H9 ⟨_, d9, bs2, hbs2, hbl2, hba2⟩
          have d59 := d58.trans d9
          have hF9 : H9 F = some (.lst (ns.map V.str)) := d9.st nFp hF8
          have ha2 : a < bs2.length := by omega
          have hb42 : bs2.length ≤ 4 := by omega
          · refine ⟨.ref F, rfl, .inl ⟨rfl, _, SqL.of hF9⟩, ⟨_, rfl⟩, .ref D2, rfl, .int a, rfl, a, rfl, D2, _, rfl, SqL.of hbs2, fun e1 he1 => ?_⟩
            refine ⟨sgn c, rfl, (by show 1 ≤ sizeLine; decide), fun e2 he2 => ?_⟩
            refine ⟨e1, e2, _, _, rfl, rfl, by rw [upd_ne (ne_new he2).symm, upd_same], upd_same, ?_, fun e3 he3 => ?_⟩
            · rw [cut_to]
              show ((bs2.map sgn).take a).length + 1 ≤ sizeLine
              rw [List.length_take, List.length_map]
              exact Nat.le_trans (show _ ≤ 100 by omega) (by decide)
            have s3 := ((same_new (o := .lst (cutV (bs2.map sgn) none (some (a : Int)))) he1).trans (same_new (o := .lst [sgn c]) he2)).trans (same_new (o := .lst (cutV (bs2.map sgn) none (some (a : Int)) ++ [sgn c])) he3)
            refine ⟨.ref D2, rfl, .int a, rfl, _, _, rfl, rfl, _, rfl, D2, _, rfl, SqL.of (s3 _ _ hbs2), fun e4 he4 => ?_⟩
            refine ⟨e3, e4, _, _, rfl, rfl, by rw [upd_ne (ne_new he4).symm, upd_same], upd_same, ?_, fun e5 he5 => ?_⟩
            · rw [cut_to, show ((a : Int) + 1) = ((a + 1 : Nat) : Int) by omega, cut_from, List.length_append, List.length_take, List.length_drop, List.length_map]
              show min a bs2.length + 1 + _ ≤ _
              exact Nat.le_trans (show _ ≤ 100 by omega) (by decide)
            have s5 := (s3.trans (same_new (o := .lst (cutV (bs2.map sgn) (some ((a : Int) + 1)) none)) he4)).trans (same_new (o := .lst (cutV (bs2.map sgn) none (some (a : Int)) ++ [sgn c] ++ cutV (bs2.map sgn) (some ((a : Int) + 1)) none)) he5)
            have en : cutV (bs2.map sgn) none (some (a : Int)) ++ [sgn c] ++ cutV (bs2.map sgn) (some ((a : Int) + 1)) none = ((nm bs2 a c).map fun c => mk [c]).map V.str := by
              rw [cut_to, show ((a : Int) + 1) = ((a + 1 : Nat) : Int) by omega, cut_from, List.map_map]
              unfold nm
              rw [List.map_append, List.map_cons, List.map_take, List.map_drop, List.append_assoc]
              rfl
            refine ⟨_, e5, (nm bs2 a c).map fun c => mk [c], rfl, rfl, .inl (SqL.of (by rw [upd_same, en])), ?_, ?_⟩
            · have l1 : ((nm bs2 a c).map fun c => mk [c]).map (·.length) = (nm bs2 a c).map fun _ => 1 := by
                rw [List.map_map]
                rfl
              rw [l1, List.map_const', List.sum_replicate_nat, List.length_map, nm_len ha2]
              show bs2.length * 1 + bs2.length * 0 ≤ 16777216
              omega
            refine ⟨F, _, _, rfl, rfl, s5 _ _ hF9, by rw [List.length_map]; exact small1000 (by omega), ?_⟩
            refine ⟨D2, bs2, _, _, ns ++ [mk (nm bs2 a c)], rfl, by omega, ?_, ?_, nDp2, nD25, nDF2, ha2, hb42, hba2, ?_, by rw [List.length_append, hnl]; rfl, ?_, ?_⟩
            · exact Dr.mono (Dr.mut ⟨d59.1.trans (Same.kp s5), d59.2.same s5⟩ hF5 nFp) (by omega)
            · rw [upd_ne nDF2]
              exact s5 _ _ hbs2
            · rw [upd_same, List.map_append, join_ones]
              rfl
            · intro j z hz
              by_cases hj : j < ns.length
              · rw [List.getElem?_append_left hj] at hz
                exact hnat j z hz
              · rw [List.getElem?_append_right (by omega)] at hz
                have hj0 : j - ns.length = 0 := by
                  have := (List.getElem?_eq_some_iff.mp hz).1
                  simp only [List.length_singleton] at this
                  omega
                rw [hj0] at hz
                have ez : mk (nm bs2 a c) = z := Option.some.inj hz
                rw [← ez, mk_tl, nm_at ha2, show j = i by omega, hci]
            · intro z hz
              rcases List.mem_append.mp hz with z1 | z1
              · exact hnis z z1
              · rw [List.mem_singleton.mp z1]
                exact nm_is hba2 (hcs _ (List.mem_of_getElem? hci)) ha2 hb42
        · refine ⟨.ref F, rfl, .inl ⟨rfl, _, SqL.of hF⟩, ⟨_, rfl⟩, .ref D, rfl, .int a, rfl, a, rfl, D, _, rfl, SqL.of hD, fun e1 he1 => ?_⟩
          refine ⟨sgn c, rfl, (by show 1 ≤ sizeLine; decide), fun e2 he2 => ?_⟩
          refine ⟨e1, e2, _, _, rfl, rfl, by rw [upd_ne (ne_new he2).symm, upd_same], upd_same, ?_, fun e3 he3 => ?_⟩
          · rw [cut_to]
            show ((bs.map sgn).take a).length + 1 ≤ sizeLine
            rw [List.length_take, List.length_map]
            exact Nat.le_trans (show _ ≤ 100 by omega) (by decide)
          have s3 := ((same_new (o := .lst (cutV (bs.map sgn) none (some (a : Int)))) he1).trans (same_new (o := .lst [sgn c]) he2)).trans (same_new (o := .lst (cutV (bs.map sgn) none (some (a : Int)) ++ [sgn c])) he3)
          refine ⟨.ref D, rfl, .int a, rfl, _, _, rfl, rfl, _, rfl, D, _, rfl, SqL.of (s3 _ _ hD), fun e4 he4 => ?_⟩
          refine ⟨e3, e4, _, _, rfl, rfl, by rw [upd_ne (ne_new he4).symm, upd_same], upd_same, ?_, fun e5 he5 => ?_⟩
          · rw [cut_to, show ((a : Int) + 1) = ((a + 1 : Nat) : Int) by omega, cut_from, List.length_append, List.length_take, List.length_drop, List.length_map]
            show min a bs.length + 1 + _ ≤ _
            exact Nat.le_trans (show _ ≤ 100 by omega) (by decide)
          have s5 := (s3.trans (same_new (o := .lst (cutV (bs.map sgn) (some ((a : Int) + 1)) none)) he4)).trans (same_new (o := .lst (cutV (bs.map sgn) none (some (a : Int)) ++ [sgn c] ++ cutV (bs.map sgn) (some ((a : Int) + 1)) none)) he5)
          have en : cutV (bs.map sgn) none (some (a : Int)) ++ [sgn c] ++ cutV (bs.map sgn) (some ((a : Int) + 1)) none = ((nm bs a c).map fun c => mk [c]).map V.str := by
            rw [cut_to, show ((a : Int) + 1) = ((a + 1 : Nat) : Int) by omega, cut_from, List.map_map]
            unfold nm
            rw [List.map_append, List.map_cons, List.map_take, List.map_drop, List.append_assoc]
            rfl
          refine ⟨_, e5, (nm bs a c).map fun c => mk [c], rfl, rfl, .inl (SqL.of (by rw [upd_same, en])), ?_, ?_⟩
          · have l1 : ((nm bs a c).map fun c => mk [c]).map (·.length) = (nm bs a c).map fun _ => 1 := by
              rw [List.map_map]
              rfl
            rw [l1, List.map_const', List.sum_replicate_nat, List.length_map, nm_len ha]
            show bs.length * 1 + bs.length * 0 ≤ 16777216
            omega
          refine ⟨F, _, _, rfl, rfl, s5 _ _ hF, by rw [List.length_map]; exact small1000 (by omega), ?_⟩
          refine ⟨D, bs, _, _, ns ++ [mk (nm bs a c)], rfl, by omega, ?_, ?_, nDp, nD5, nDF, ha, hb4, hba, ?_, by rw [List.length_append, hnl]; rfl, ?_, ?_⟩
          · exact Dr.mono (Dr.mut ⟨d.1.trans (Same.kp s5), d.2.same s5⟩ hF5 nFp) (by omega)
          · rw [upd_ne nDF]
            exact s5 _ _ hD
          · rw [upd_same, List.map_append, join_ones]
            rfl
          · intro j z hz
            by_cases hj : j < ns.length
            · rw [List.getElem?_append_left hj] at hz
              exact hnat j z hz
            · rw [List.getElem?_append_right (by omega)] at hz
              have hj0 : j - ns.length = 0 := by
                have := (List.getElem?_eq_some_iff.mp hz).1
                simp only [List.length_singleton] at this
                omega
              rw [hj0] at hz
              have ez : mk (nm bs a c) = z := Option.some.inj hz
              rw [← ez, mk_tl, nm_at ha, show j = i by omega, hci]
          · intro z hz
            rcases List.mem_append.mp hz with z1 | z1
            · exact hnis z z1
            · rw [List.mem_singleton.mp z1]
              exact nm_is hba (hcs _ (List.mem_of_getElem? hci)) ha hb4
      · rintro σ H' ⟨D, bs, v9, v10, ns, rfl, hi, d, hD, nDp, nD5, nDF, ha, hb4, hba, hF, hnl, hnat, hnis⟩
        refine ⟨.ref F, rfl, F, _, rfl, .inl ⟨SqL.of hF, fun tq2 htq2 => ?_⟩⟩
        rw [List.length_map] at hnl d
        have hms := nms_of nd hnl hnat hnis
        rw [hl] at hms
        exact q tq2 ns _ hms ((d05.trans (d.mono (by omega))).new htq2) (d05.fr (d.fr htq2)) ((d05.trans d).2.ne htq2) upd_same
end
end OG
set_option Elab.async false
set_option linter.all false
set_option maxRecDepth 100000
set_option maxHeartbeats 4000000
namespace OG
open PySem PySem.Spec PyProof.Rows L2
theorem lc_drawn {p : Addr} {m : Nat} {H5 : Hp} {D : Addr} {te : TE} {sl : Nat} {σ : L2.St} {Qd : Hp → Prop} (b : Nat → Nat) (R : V → Prop) (hP : Pot (b 0) H5 p) (hD : H5 D = none) (hm : m ≤ 1000)
    (hte : ∀ (i : Nat) (H' : Hp) (Q : VK), i < m → Dr p (b i) H5 H' → (∀ x H4, R x → Dr p (b (i + 1)) H' H4 → Q x H4) → te ((wipe σ [sl]).set sl (some (.int (0 + (i : Int))))) H' Q)
    (hw : ∀ v : Option V, wipe ((wipe σ [sl]).set sl v) [sl] = wipe σ [sl])
    (hd : ∀ (H6 : Hp) (xs : List V), xs.length = m → (∀ x ∈ xs, R x) → Dr p (b m) H5 H6 → H6 D = some (.lst xs) → Qd H6) :
    ∃ W : Nat → Nat → Hp → Prop, (∃ m, W 0 m (upd H5 D (.lst []))) ∧ ∀ i n H, W i n H →
      ((Itr 0 m).stop i H ∧ Qd H) ∨ ((Itr 0 m).go i H ∧ ∃ Nx : Hp → Prop, (∀ H', Nx H' → ∃ m', m' < n ∧ W (i + 1) m' H') ∧ ∀ x H', (Itr 0 m).yld i H x H' → gName sl x (wipe σ [sl]) H' fun σ2 H2 => wipe σ2 [sl] = wipe σ [sl] ∧ tYes σ2 H2 fun b H3 =>
        if b = true then te σ2 H3 fun y H4 => ∃ acc, H4 D = some (.lst acc) ∧ acc.length < sizeLine ∧ Nx (upd H4 D (.lst (acc ++ [y]))) else Nx H3) := by
  have nDp : D ≠ p := hP.ne hD
  refine lc_range (lo := 0) (n := m) (fun i H' => i ≤ m ∧ Dr p (b i) H5 H' ∧ ∃ xs : List V, H' D = some (.lst xs) ∧ xs.length = i ∧ ∀ x ∈ xs, R x) ⟨Nat.zero_le _, (Dr.start hP (Nat.le_refl _)).new hD, [], upd_same, rfl, fun _ h => by cases h⟩ ?_ ?_
  · rintro i H' hi ⟨_, d, xs, h1, h2, h3⟩
    refine ⟨hw _, ?_⟩
    refine hte i H' _ hi d fun x H4 hx d4 => ?_
    refine ⟨xs, d4.st nDp h1, small1000 (by omega), hi, (d.trans d4).mut hD nDp, xs ++ [x], upd_same, by rw [List.length_append, h2]; rfl, fun z hz => ?_⟩
    rcases List.mem_append.mp hz with q | q
    · exact h3 z q
    · rw [List.mem_singleton.mp q]
      exact hx
  · rintro H6 ⟨_, d, xs, h1, h2, h3⟩
    exact hd H6 xs h2 h3 d h1
theorem ints_of {P : Int → Prop} : ∀ {xs : List V}, (∀ x ∈ xs, ∃ z, x = V.int z ∧ P z) → ∃ zs : List Int, xs = zs.map V.int ∧ ∀ z ∈ zs, P z
  | [], _ => ⟨[], rfl, fun _ h => by cases h⟩
  | x :: r, h => by
    obtain ⟨zs, e, k⟩ := ints_of (xs := r) fun y hy => h y (List.mem_cons_of_mem _ hy)
    obtain ⟨z, ez, pz⟩ := h x List.mem_cons_self
    refine ⟨z :: zs, by rw [e, ez]; rfl, fun y hy => ?_⟩
    rcases List.mem_cons.mp hy with q | q
    · rw [q]; exact pz
    · exact k y q
def WOk (b w : Int) : Prop := w ≠ 0 ∧ -1000000000000 ≤ w ∧ w ≤ 1000000000000 ∧ (0 < b → 0 < w ∧ w < b)
theorem sum_bd : ∀ {zs : List Int}, (∀ z ∈ zs, -3 ≤ z ∧ z ≤ 3) → -(3 * (zs.length : Int)) ≤ zs.sum ∧ zs.sum ≤ 3 * (zs.length : Int)
  | [], _ => by simp
  | x :: r, h => by
    have ih := sum_bd (zs := r) fun y hy => h y (List.mem_cons_of_mem _ hy)
    have hx := h x List.mem_cons_self
    rw [List.sum_cons, List.length_cons]
    omega
end OG
set_option Elab.async false
set_option linter.all false
set_option maxRecDepth 100000
set_option maxHeartbeats 4000000
namespace OG
open PySem PySem.Spec PyProof.Rows L2
section
variable {P : Program} {w : World} {K : PySem.W.Frag} {mg : Str → Option Value} {base : Heap}
def spWeights : Sp := fun vs H Q _ => ∃ (p : Addr) (b : Int) (m k : Nat) (ab : Bool), vs = [.ref p, .int b, .int (m : Int), .bl ab] ∧ Pot (k + 20) H p ∧ m ≤ 5 ∧ 1 ≤ m ∧ 0 ≤ b ∧ b ≠ 1 ∧ b ≤ 97 ∧
  ∀ (q : Addr) (ws : List Int) (H' : Hp), ws.length = m → (∀ z ∈ ws, WOk b z) → Dr p k H H' → H q = none → q ≠ p → H' q = some (.tup (ws.map V.int)) → Q (.ref q) H'
theorem rep_ones : ∀ m : Nat, (List.replicate m [V.int 1]).flatten = (List.replicate m (1 : Int)).map V.int
  | 0 => rfl
  | m + 1 => by
    rw [List.replicate_succ, List.flatten_cons, rep_ones m, List.replicate_succ]
    rfl
theorem at_of {xs : List Int} {i : Nat} {x : V} (h : (xs.map V.int)[i]? = some x) : ∃ z, z ∈ xs ∧ x = .int z := by
  rw [List.getElem?_map] at h
  cases e : xs[i]? with
  | none =>
    rw [e] at h
    cases h
  | some z =>
    rw [e] at h
    exact ⟨z, List.mem_of_getElem? e, (Option.some.inj h).symm⟩
theorem ok_l_book_weights (T : Txt K mg) : FnOk P w K mg base CX0 3 T.f_l_book_weights T.fd_l_book_weights ["pot", "by", "many", "is_above"] (spWeights) := by
  refine T.F_l_book_weights.ok sc_l_book_weights (fun vs H Q E h => ?_) (fun cdv A outer s H vs Q E hr h => ?_)
  · obtain ⟨p, b, m, k, ab, rfl, _⟩ := h
    rfl
  · obtain ⟨p, b, m, k, ab, rfl, hP, hm, hm1, b0, bn1, b97, q⟩ := h
    refine ⟨_, (pss_cons (ps_set (i := 4) sc_l_book_weights.nd rfl (Or.inl rfl) (pe_call (ok_l_take T) (hr.mono (by decide)) (by rfl) T.g_l_take T.F_l_take.kp T.b_l_take .nil pass0 (pa_cons (pv 0) (pa_cons pe_int pa_nil))))
  (pss_cons (ps_if (pt_cmpR op_eq (pv 4) pe_int (nomark _)) (pss_one (ps_ret (pe_callTy call_tuple_of (by rfl) T.n_tuple (by decide +kernel) (pa_cons (pe_op op_rep (pe_lst (pa_cons pe_int pa_nil)) (pv 2)) pa_nil)))) pss_nil)
  (pss_cons (ps_if (pt_cmpR op_gt (pv 1) pe_int (nomark _)) (pss_one (ps_ret (pe_callTy call_tuple_of (by rfl) T.n_tuple (by decide +kernel) (pa_cons (pe_lc (own := [("lap", 8)]) (g := gName 8) (by rfl) sc_l_book_weights.nd (pi_range1 (by rfl) T.n_range (pa_cons (pv 2) pa_nil)) (blkOk_by (own := [("lap", 8)]) (by rfl)) (fun _ _ _ _ _ => (pg_name (i := 8) sc_l_book_weights.nd rfl (Or.inl rfl))) (fun _ _ _ _ _ => pts_nil) (fun _ _ _ _ _ => (pe_op op_add pe_int (pe_call (ok_l_take T) (hr.mono (by decide)) (by rfl) T.g_l_take T.F_l_take.kp T.b_l_take .nil pass0 (pa_cons (pv 0) (pa_cons (pe_op op_sub (pv 1) pe_int) pa_nil)))))) pa_nil)))) pss_nil)
  (pss_cons (ps_if (PW.pt (pw_or (pt_val (pv 3)) (pw_or1 (pt_cmpR op_lt (pv 4) pe_int (nomark _))))) (pss_cons (ps_set (i := 5) sc_l_book_weights.nd rfl (Or.inr rfl) (pe_call (ok_l_of T) (hr.mono (by decide)) (by rfl) T.g_l_of T.F_l_of.kp T.b_l_of .nil pass0 (pa_cons (pv 0) (pa_cons (pe_lst (pa_cons pe_int (pa_cons pe_int (pa_cons pe_int (pa_cons (pe_op op_powW pe_int pe_int) pa_nil))))) pa_nil))))
  (pss_one (ps_ret (pe_callTy call_tuple_of (by rfl) T.n_tuple (by decide +kernel) (pa_cons (pe_lc (own := [("lap", 8)]) (g := gName 8) (by rfl) sc_l_book_weights.nd (pi_range1 (by rfl) T.n_range (pa_cons (pv 2) pa_nil)) (blkOk_by (own := [("lap", 8)]) (by rfl)) (fun _ _ _ _ _ => (pg_name (i := 8) sc_l_book_weights.nd rfl (Or.inl rfl))) (fun _ _ _ _ _ => pts_nil) (fun _ _ _ _ _ => (pe_op op_add pe_int (pe_call (ok_l_take T) (hr.mono (by decide)) (by rfl) T.g_l_take T.F_l_take.kp T.b_l_take .nil pass0 (pa_cons (pv 0) (pa_cons (pv 5) pa_nil)))))) pa_nil))))) pss_nil)
  (pss_cons (ps_if (pt_cmpR op_eq (pv 4) pe_int (nomark _)) (pss_one (ps_ret (pe_callTy call_tuple_of (by rfl) T.n_tuple (by decide +kernel) (pa_cons (pe_lc (own := [("lap", 8)]) (g := gName 8) (by rfl) sc_l_book_weights.nd (pi_range1 (by rfl) T.n_range (pa_cons (pv 2) pa_nil)) (blkOk_by (own := [("lap", 8)]) (by rfl)) (fun _ _ _ _ _ => (pg_name (i := 8) sc_l_book_weights.nd rfl (Or.inl rfl))) (fun _ _ _ _ _ => pts_nil) (fun _ _ _ _ _ => (pe_call (ok_l_of T) (hr.mono (by decide)) (by rfl) T.g_l_of T.F_l_of.kp T.b_l_of .nil pass0 (pa_cons (pv 0) (pa_cons (pe_lst (pa_cons (pe_op op_powW pe_int pe_int) (pa_cons (pe_un un_neg (pe_op op_powW pe_int pe_int)) (pa_cons pe_int (pa_cons (pe_un un_neg pe_int) (pa_cons pe_int pa_nil)))))) pa_nil))))) pa_nil)))) pss_nil)
  (pss_cons (ps_setLc (i := 6) (own := [("lap", 8)]) (g := gName 8) (by rfl) sc_l_book_weights.nd rfl rfl (sw_true rfl rfl rfl (by decide +kernel)) (pi_range1 (by rfl) T.n_range (pa_cons (pv 2) pa_nil)) (blkOk_by (own := [("lap", 8)]) (by rfl)) (fun _ _ _ _ _ => (pg_name (i := 8) sc_l_book_weights.nd rfl (Or.inl rfl))) (fun _ _ _ _ _ => pts_nil) (fun _ _ _ _ _ => (pe_call (ok_l_of T) (hr.mono (by decide)) (by rfl) T.g_l_of T.F_l_of.kp T.b_l_of .nil pass0 (pa_cons (pv 0) (pa_cons (pe_lst (pa_cons pe_int (pa_cons (pe_un un_neg pe_int) (pa_cons pe_int (pa_cons (pe_un un_neg pe_int) (pa_cons pe_int (pa_cons (pe_un un_neg pe_int) pa_nil))))))) pa_nil)))))
  (pss_cons (ps_set (i := 7) sc_l_book_weights.nd rfl (Or.inl rfl) (pe_un un_neg (pe_callB (cr_sum rfl) (by rfl) T.n_sum (by decide +kernel) (pa_cons (pe_lc (own := [("weight", 9)]) (g := gName 9) (by rfl) sc_l_book_weights.nd (pi_list (pe_slice sl_list (pv 6) (po_some pe_int) po_none)) (blkOk_by (own := [("weight", 9)]) (by rfl)) (fun _ _ _ _ _ => (pg_name (i := 9) sc_l_book_weights.nd rfl (Or.inl rfl))) (fun _ _ _ _ _ => pts_nil) (fun _ _ _ _ _ => (pe_callTy call_int1 (by rfl) T.n_int (by decide +kernel) (pa_cons (pv 9) pa_nil)))) pa_nil))))
  (pss_one (ps_ret (pe_callTy call_tuple_of (by rfl) T.n_tuple (by decide +kernel) (pa_cons (pe_ifExp (PW.pt (pw_and (pt_cmpR op_eq (pv 4) pe_int (nomark _)) (pw_and1 (pt_cmpR op_ne (pv 7) pe_int (nomark _))))) (pe_op op_cat (pe_lst (pa_cons (pv 7) pa_nil)) (pe_slice sl_list (pv 6) (po_some pe_int) po_none)) (pv 6)) pa_nil))))))))))), ?_⟩
    refine ⟨.ref p, rfl, p, 6, k + 19, rfl, hP, by decide, by decide, fun way H1 w0 w1 d1 => ?_⟩
    have fin : ∀ (D : Addr) (H6 : Hp) (zs : List Int), zs.length = m → (∀ z ∈ zs, WOk b z) → Dr p k H H6 → H6 D = some (.lst (zs.map V.int)) →
        ∃ p_1 ys, [V.ref D] = [V.ref p_1] ∧ ((SqL K H6 p_1 ys ∧ ∀ l, H6 l = none → Q (.ref l) (upd H6 l (.tup ys))) ∨ (SqT K H6 p_1 ys ∧ Q (.ref p_1) H6)) := fun D H6 zs h1 h2 d h3 =>
      ⟨D, _, rfl, .inl ⟨SqL.of h3, fun t ht => q t zs _ h1 h2 (d.new ht) (d.fr ht) (d.2.ne ht) upd_same⟩⟩
    refine ⟨.int way, rfl, rfl, _, rfl, ite2 (fun _ => ?_) (fun _ => ?_)⟩
    · refine ⟨by decide, fun e1 he1 => ?_⟩
      refine ⟨.int m, rfl, e1, m, _, rfl, rfl, upd_same, by omega, by omega, ?_, fun e2 he2 => ?_⟩
      · show 1 * m ≤ sizeLine
        exact Nat.le_trans (show _ ≤ 100 by omega) (by decide)
      · refine fin e2 _ (List.replicate m (1 : Int)) (List.length_replicate ..) (fun z hz => ?_) (((d1.new he1).new he2).mono (by omega)) ?_
        · rw [(List.mem_replicate.mp hz).2]
          exact ⟨by decide, by decide, by decide, fun _ => by omega⟩
        · rw [upd_same, ← rep_ones]
          rfl
    · refine ⟨.int b, rfl, _, _, rfl, rfl, _, rfl, ite2 (fun hb => ?_) (fun hb => ?_)⟩
      · have hb : 0 < b := of_decide_eq_true hb
        refine ⟨.int m, rfl, m, rfl, by omega, by omega, fun D hD => ?_⟩
        refine lc_drawn (m := m) (fun i => k + 19 - i) (fun x => ∃ z, x = .int z ∧ WOk b z) d1.2 hD (by omega) (fun i H' Q' hi d hq => ?_) (fun _ => rfl) ?_
        · refine ⟨.ref p, rfl, .int b, rfl, _, _, rfl, rfl, p, b - 1, k + 19 - (i + 1), rfl, d.2.mono (by omega), by omega, by omega, fun r H4 r0 r1 d4 => ?_⟩
          exact ⟨_, _, rfl, rfl, hq _ _ ⟨1 + r, rfl, by omega, by omega, by omega, fun _ => by omega⟩ d4⟩
        · intro H6 xs h1 h2 d h3
          obtain ⟨zs, rfl, hz⟩ := ints_of h2
          exact fin D H6 zs (by rw [← h1, List.length_map]) hz ((d1.trans d).mono (by omega)) h3
      · have hb : b = 0 := by
          have := of_decide_eq_false (Bool.eq_false_iff.mpr hb)
          omega
        subst hb
        refine ⟨.bl ab, rfl, ab, rfl, ?_⟩
        cases ab with
        | true =>
          refine ⟨.ref p, rfl, _, _, rfl, rfl, pow_c (by decide), by decide, fun l hl => ?_⟩
          have nlp : l ≠ p := d1.2.ne hl
          refine ⟨p, l, _, k + 18, rfl, (d1.new hl).2.mono (by omega), SqL.of upd_same, nlp, by decide, by decide, fun j x H4 hx d4 => ?_⟩
          obtain ⟨most, rfl, m0, m1⟩ : ∃ z : Int, x = .int z ∧ 0 < z ∧ z ≤ 1000000000000 := by
            have hx : [V.int 3, V.int 3, V.int 99, V.int 1000000000000][j]? = some x := hx
            rcases j with _ | _ | _ | _ | j
            · exact ⟨3, (Option.some.inj hx).symm, by decide, by decide⟩
            · exact ⟨3, (Option.some.inj hx).symm, by decide, by decide⟩
            · exact ⟨99, (Option.some.inj hx).symm, by decide, by decide⟩
            · exact ⟨1000000000000, (Option.some.inj hx).symm, by decide, by decide⟩
            · simp at hx
          have d14 := (d1.new (o := .lst [V.int 3, V.int 3, V.int 99, V.int 1000000000000]) hl).trans d4
          refine ⟨.int m, rfl, m, rfl, by omega, by omega, fun D hD => ?_⟩
          refine lc_drawn (m := m) (fun i => k + 18 - i) (fun x => ∃ z, x = .int z ∧ WOk 0 z) d4.2 hD (by omega) (fun i H' Q' hi d hq => ?_) (fun _ => rfl) ?_
          · refine ⟨.ref p, rfl, .int most, rfl, p, most, k + 18 - (i + 1), rfl, d.2.mono (by omega), m0, by omega, fun r H4 r0 r1 d4 => ?_⟩
            exact ⟨_, _, rfl, rfl, hq _ _ ⟨1 + r, rfl, by omega, by omega, by omega, fun _ => by omega⟩ d4⟩
          · intro H6 xs h1 h2 d h3
            obtain ⟨zs, rfl, hz⟩ := ints_of h2
            exact fin D H6 zs (by rw [← h1, List.length_map]) hz ((d14.trans d).mono (by omega)) h3
        | false =>
          refine ⟨.int way, rfl, _, _, rfl, rfl, _, rfl, ite2 (fun _ => ?_) (fun _ => ?_)⟩
          · -- most
            refine ⟨.ref p, rfl, _, _, rfl, rfl, pow_c (by decide), by decide, fun l hl => ?_⟩
            have nlp : l ≠ p := d1.2.ne hl
            refine ⟨p, l, _, k + 18, rfl, (d1.new hl).2.mono (by omega), SqL.of upd_same, nlp, by decide, by decide, fun j x H4 hx d4 => ?_⟩
            obtain ⟨most, rfl, m0, m1⟩ : ∃ z : Int, x = .int z ∧ 0 < z ∧ z ≤ 1000000000000 := by
              have hx : [V.int 3, V.int 3, V.int 99, V.int 1000000000000][j]? = some x := hx
              rcases j with _ | _ | _ | _ | j
              · exact ⟨3, (Option.some.inj hx).symm, by decide, by decide⟩
              · exact ⟨3, (Option.some.inj hx).symm, by decide, by decide⟩
              · exact ⟨99, (Option.some.inj hx).symm, by decide, by decide⟩
              · exact ⟨1000000000000, (Option.some.inj hx).symm, by decide, by decide⟩
              · simp at hx
            have d14 := (d1.new (o := .lst [V.int 3, V.int 3, V.int 99, V.int 1000000000000]) hl).trans d4
            refine ⟨.int m, rfl, m, rfl, by omega, by omega, fun D hD => ?_⟩
            refine lc_drawn (m := m) (fun i => k + 18 - i) (fun x => ∃ z, x = .int z ∧ WOk 0 z) d4.2 hD (by omega) (fun i H' Q' hi d hq => ?_) (fun _ => rfl) ?_
            · refine ⟨.ref p, rfl, .int most, rfl, p, most, k + 18 - (i + 1), rfl, d.2.mono (by omega), m0, by omega, fun r H4 r0 r1 d4 => ?_⟩
              exact ⟨_, _, rfl, rfl, hq _ _ ⟨1 + r, rfl, by omega, by omega, by omega, fun _ => by omega⟩ d4⟩
            · intro H6 xs h1 h2 d h3
              obtain ⟨zs, rfl, hz⟩ := ints_of h2
              exact fin D H6 zs (by rw [← h1, List.length_map]) hz ((d14.trans d).mono (by omega)) h3
          · refine ⟨.int way, rfl, rfl, _, rfl, ite2 (fun _ => ?_) (fun _ => ?_)⟩
            · refine ⟨.int m, rfl, m, rfl, by omega, by omega, fun D hD => ?_⟩
              refine lc_drawn (m := m) (fun i => k + 19 - i) (fun x => ∃ z, x = .int z ∧ WOk 0 z) d1.2 hD (by omega) (fun i H' Q' hi d hq => ?_) (fun _ => rfl) ?_
              · refine ⟨.ref p, rfl, _, _, rfl, rfl, pow_c (by decide), _, _, rfl, rfl, pow_c (by decide), _, rfl, _, rfl, by decide, fun l hl => ?_⟩
                have nlp : l ≠ p := d.2.ne hl
                refine ⟨p, l, _, k + 19 - (i + 1), rfl, (d.2.same (same_new hl)).mono (by omega), SqL.of upd_same, nlp, by decide, by decide, fun j x H4 hx d4 => ?_⟩
                refine hq _ _ ?_ ((Dr.new (Dr.start d.2 (Nat.le_refl _)) hl).trans d4)
                have hx : [V.int 1000000000000, V.int (-1000000000000), V.int 1, V.int (-1), V.int 99][j]? = some x := hx
                rcases j with _ | _ | _ | _ | _ | j
                · exact ⟨_, (Option.some.inj hx).symm, by decide, by decide, by decide, fun h => absurd h (by decide)⟩
                · exact ⟨_, (Option.some.inj hx).symm, by decide, by decide, by decide, fun h => absurd h (by decide)⟩
                · exact ⟨_, (Option.some.inj hx).symm, by decide, by decide, by decide, fun h => absurd h (by decide)⟩
                · exact ⟨_, (Option.some.inj hx).symm, by decide, by decide, by decide, fun h => absurd h (by decide)⟩
                · exact ⟨_, (Option.some.inj hx).symm, by decide, by decide, by decide, fun h => absurd h (by decide)⟩
                · simp at hx
              · intro H6 xs h1 h2 d h3
                obtain ⟨zs, rfl, hz⟩ := ints_of h2
                exact fin D H6 zs (by rw [← h1, List.length_map]) hz ((d1.trans d).mono (by omega)) h3
            · -- found
              refine ⟨.int m, rfl, m, rfl, by omega, by omega, fun D hD => ?_⟩
              refine lc_drawn (m := m) (fun i => k + 19 - i) (fun x => ∃ z, x = .int z ∧ (z ≠ 0 ∧ -3 ≤ z ∧ z ≤ 3)) d1.2 hD (by omega) (fun i H' Q' hi d hq => ?_) (fun _ => rfl) ?_
              · refine ⟨.ref p, rfl, _, rfl, _, rfl, _, rfl, by decide, fun l hl => ?_⟩
                have nlp : l ≠ p := d.2.ne hl
                refine ⟨p, l, _, k + 19 - (i + 1), rfl, (d.2.same (same_new hl)).mono (by omega), SqL.of upd_same, nlp, by decide, by decide, fun j x H4 hx d4 => ?_⟩
                refine hq _ _ ?_ ((Dr.new (Dr.start d.2 (Nat.le_refl _)) hl).trans d4)
                have hx : [V.int 1, V.int (-1), V.int 2, V.int (-2), V.int 3, V.int (-3)][j]? = some x := hx
                rcases j with _ | _ | _ | _ | _ | _ | j
                · exact ⟨_, (Option.some.inj hx).symm, by decide, by decide, by decide⟩
                · exact ⟨_, (Option.some.inj hx).symm, by decide, by decide, by decide⟩
                · exact ⟨_, (Option.some.inj hx).symm, by decide, by decide, by decide⟩
                · exact ⟨_, (Option.some.inj hx).symm, by decide, by decide, by decide⟩
                · exact ⟨_, (Option.some.inj hx).symm, by decide, by decide, by decide⟩
                · exact ⟨_, (Option.some.inj hx).symm, by decide, by decide, by decide⟩
                · simp at hx
              · intro H6 xs h1 h2 d h3
                obtain ⟨zs, rfl, hz⟩ := ints_of h2
                rw [List.length_map] at h1
                have dz := d1.trans d
                refine ⟨.ref D, rfl, _, rfl, D, _, rfl, SqL.of h3, fun e he => ?_⟩
                have ec : cutV (zs.map V.int) (some 1) none = (zs.drop 1).map V.int := by
                  rw [show (1 : Int) = ((1 : Nat) : Int) from rfl, cut_from, List.map_drop]
                have hdl : (zs.drop 1).length ≤ 5 := by
                  rw [List.length_drop]
                  omega
                have d7 := dz.new (o := .lst (cutV (zs.map V.int) (some 1) none)) he
                refine ⟨e, rfl, ⟨_, SqL.of upd_same⟩, fun G hG => ?_⟩
                refine lc_list (K := K) (a := e) (xs := (zs.drop 1).map V.int) (fun i H' => i ≤ (zs.drop 1).length ∧ Same (upd H6 e (.lst (cutV (zs.map V.int) (some 1) none))) H' ∧ H' G = some (.lst (((zs.drop 1).take i).map V.int)))
                  ⟨Nat.zero_le _, same_new hG, upd_same⟩ (fun i H' _ ⟨_, s, _⟩ => SqL.of (by rw [← ec]; exact s _ _ upd_same)) ?_ ?_
                · rintro i x H' hx ⟨hi, s, hG'⟩
                  have hil : i < (zs.drop 1).length := by
                    have := (List.getElem?_eq_some_iff.mp hx).1
                    rwa [List.length_map] at this
                  have ex : x = .int ((zs.drop 1)[i]) := by
                    rw [List.getElem?_map, List.getElem?_eq_getElem hil] at hx
                    exact (Option.some.inj hx).symm
                  subst ex
                  refine ⟨rfl, ?_⟩
                  refine ⟨_, rfl, .inl ⟨_, rfl, ?_⟩⟩
                  refine ⟨_, hG', ?_, hil, fun a o ho => ?_, ?_⟩
                  · rw [List.length_map, List.length_take]
                    exact small1000 (by omega)
                  · rw [upd_ne (ne_of_none ho hG)]
                    exact s _ _ ho
                  · rw [upd_same, List.take_add_one, List.getElem?_eq_getElem hil, List.map_append]
                    rfl
                · rintro H7 ⟨_, s, hG'⟩
                  rw [List.length_map, List.take_length] at hG'
                  refine ⟨G, _, rfl, SqL.of hG', ?_⟩
                  have d8 : Dr p (k + 19 - m) H H7 := ⟨d7.1.trans (Same.kp s), d7.2.same s⟩
                  have hD7 : H7 D = some (.lst (zs.map V.int)) := s _ _ (by rw [upd_ne (ne_of_none h3 he)]; exact h3)
                  refine ⟨_, rfl, ?_⟩
                  have sb := sum_bd (zs := zs.drop 1) fun z hz' => ⟨(hz z (List.mem_of_mem_drop hz')).2.1, (hz z (List.mem_of_mem_drop hz')).2.2⟩
                  have sl : ((zs.drop 1).length : Int) ≤ 4 := by
                    rw [List.length_drop]
                    omega
                  have hz1 : ∀ z ∈ zs, WOk 0 z := fun z hz' => by
                    obtain ⟨z1, z2, z3⟩ := hz z hz'
                    exact ⟨z1, by omega, by omega, fun h => absurd h (by decide)⟩
                  refine ⟨.int way, rfl, rfl, _, rfl, ?_⟩
                  refine ite2 (fun _ => ?_) (fun _ => ?_)
                  · refine ⟨_, rfl, rfl, _, rfl, ?_⟩
                    generalize hl : (!decide (V.int (-(zs.drop 1).sum) = V.int 0)) = last0
                    cases last0 with
                    | true =>
                      have ln : -(zs.drop 1).sum ≠ 0 := fun z => by
                        rw [z] at hl
                        cases hl
                      refine ⟨_, rfl, (by show 1 ≤ sizeLine; decide), fun u hu => ?_⟩
                      refine ⟨.ref D, rfl, _, rfl, D, _, rfl, SqL.of (by rw [upd_ne (ne_of_none hD7 hu)]; exact hD7), fun v hv => ?_⟩
                      refine ⟨u, v, _, _, rfl, rfl, by rw [upd_ne (ne_new hv).symm, upd_same], upd_same, ?_, fun t ht => ?_⟩
                      · rw [ec, List.length_map, List.length_drop]
                        exact Nat.le_trans (show 1 + (zs.length - 1) ≤ 100 by omega) (by decide)
                      · refine fin t _ (-(zs.drop 1).sum :: zs.drop 1) ?_ (fun z hz' => ?_) ((((d8.new hu).new hv).new ht).mono (by omega)) ?_
                        · rw [List.length_cons, List.length_drop]
                          omega
                        · rcases List.mem_cons.mp hz' with z1 | z1
                          · rw [z1]
                            exact ⟨ln, by omega, by omega, fun h => absurd h (by decide)⟩
                          · exact hz1 z (List.mem_of_mem_drop z1)
                        · rw [upd_same, ec]
                          rfl
                    | false => exact ⟨_, rfl, fin D H7 zs h1 hz1 (d8.mono (by omega)) hD7⟩
                  · exact ⟨_, rfl, fin D H7 zs h1 hz1 (d8.mono (by omega)) hD7⟩
end
end OG
set_option Elab.async false
set_option linter.all false
set_option maxRecDepth 100000
set_option maxHeartbeats 4000000
namespace OG
open PySem PySem.Spec PyProof.Rows L2
theorem seq_fin {t1 t2 : TS} {D : Ends} {σ : L2.St} {H : Hp} (C : L2.St → Hp → Prop) (h2 : ∀ σ' H', C σ' H' → t2 D σ' H') (h1 : (∀ σ' H', C σ' H' → t2 D σ' H') → t1 { D with nx := t2 D } σ H) : tSeq t1 t2 D σ H := h1 h2
/-- places: the ints below m -/
def plV (m : Nat) : List V := rgV 0 (m : Int)
theorem plV_len (m : Nat) : (plV m).length = m := by
  unfold plV
  rw [rgV_length]
  omega
theorem plV_at {m i : Nat} {x : V} (h : (plV m)[i]? = some x) : i < m ∧ x = .int (i : Int) := by
  have hi : i < m := by
    have q := (List.getElem?_eq_some_iff.mp h).1
    rwa [plV_len] at q
  refine ⟨hi, ?_⟩
  unfold plV rgV at h
  rw [List.getElem?_map, List.getElem?_range (show i < ((m : Int) - 0).toNat by omega)] at h
  have e : V.int (0 + (i : Int)) = x := Option.some.inj h
  rw [← e, Int.zero_add]
/-- a list of lists: m rows of m numbers -/
def Mat (R : Int → Prop) (p : Addr) (H : Hp) (S : Addr) (m : Nat) : Prop := ∃ rs : List Addr, H S = some (.lst (rs.map V.ref)) ∧ S ≠ p ∧ rs.length = m ∧ ∀ r ∈ rs, r ≠ p ∧ r ≠ S ∧ ∃ row : List Int, H r = some (.lst (row.map V.int)) ∧ row.length = m ∧ ∀ z ∈ row, R z
theorem Mat.imp {R R' : Int → Prop} {p : Addr} {H : Hp} {S : Addr} {m : Nat} (h : Mat R p H S m) (e : ∀ z, R z → R' z) : Mat R' p H S m := by
  obtain ⟨rs, h1, h2, h3, h4⟩ := h
  refine ⟨rs, h1, h2, h3, fun r hr => ?_⟩
  obtain ⟨a, b, row, c, d, f⟩ := h4 r hr
  exact ⟨a, b, row, c, d, fun z hz => e z (f z hz)⟩
theorem Mat.dr {R : Int → Prop} {p : Addr} {H H' : Hp} {S : Addr} {m k : Nat} (h : Mat R p H S m) (d : Dr p k H H') : Mat R p H' S m := by
  obtain ⟨rs, h1, h2, h3, h4⟩ := h
  refine ⟨rs, d.st h2 h1, h2, h3, fun r hr => ?_⟩
  obtain ⟨a, b, row, c, d', f⟩ := h4 r hr
  exact ⟨a, b, row, d.st a c, d', f⟩
/-- the entry at a, b -/
theorem Mat.row {R : Int → Prop} {p : Addr} {H : Hp} {S : Addr} {m i : Nat} (h : Mat R p H S m) (hi : i < m) : ∃ (rs : List Addr) (r : Addr) (row : List Int), H S = some (.lst (rs.map V.ref)) ∧ rs.length = m ∧ (rs.map V.ref)[i]? = some (.ref r) ∧ H r = some (.lst (row.map V.int)) ∧ row.length = m ∧ ∀ z ∈ row, R z := by
  obtain ⟨rs, h1, h2, h3, h4⟩ := h
  have hr : rs[i]? = some (rs[i]'(by omega)) := List.getElem?_eq_getElem (by omega)
  obtain ⟨a, b, row, c, d', f⟩ := h4 _ (List.mem_of_getElem? hr)
  refine ⟨rs, _, row, h1, h3, ?_, c, d', f⟩
  rw [List.getElem?_map, hr]
  rfl
theorem row_at {R : Int → Prop} {row : List Int} {m i : Nat} (h : row.length = m) (f : ∀ z ∈ row, R z) (hi : i < m) : ∃ z, (row.map V.int)[i]? = some (.int z) ∧ R z := by
  have hr : row[i]? = some (row[i]'(by omega)) := List.getElem?_eq_getElem (by omega)
  refine ⟨_, ?_, f _ (List.mem_of_getElem? hr)⟩
  rw [List.getElem?_map, hr]
  rfl
theorem lc_mat {K : PySem.W.Frag} {p pl D : Addr} {m k sa sb sp : Nat} {H5 : Hp} {te : TE} {σ : L2.St} {Qd : Hp → Prop} (R : Int → Prop)
    (hP : Pot (k + 25) H5 p) (hm : m ≤ 4) (hpl : H5 pl = some (.lst (plV m))) (npl : pl ≠ p) (hD : H5 D = none)
    (hte : ∀ (a b j : Nat) (H' : Hp) (Q' : VK), a < m → b < m → Dr p (j + 1) H5 H' → (∀ z H4, R z → Dr p j H' H4 → Q' (.int z) H4) →
      te ((wipe ((wipe σ [sa]).set sa (some (.int (a : Int)))) [sb]).set sb (some (.int (b : Int)))) H' Q')
    (hv : ∀ v : Option V, ((wipe σ [sa]).set sa v)[sp]? = some (some (.ref pl)))
    (hw1 : ∀ v : Option V, wipe ((wipe σ [sa]).set sa v) [sa] = wipe σ [sa])
    (hw2 : ∀ v v2 : Option V, wipe ((wipe ((wipe σ [sa]).set sa v) [sb]).set sb v2) [sb] = wipe ((wipe σ [sa]).set sa v) [sb])
    (hd : ∀ (H6 : Hp), Mat R p H6 D m → Dr p k H5 H6 → Qd H6) :
    ∃ W : Nat → Nat → Hp → Prop, (∃ m, W 0 m (upd H5 D (.lst []))) ∧ ∀ i n H, W i n H →
      ((Itl K pl).stop i H ∧ Qd H) ∨ ((Itl K pl).go i H ∧ ∃ Nx : Hp → Prop, (∀ H', Nx H' → ∃ m', m' < n ∧ W (i + 1) m' H') ∧ ∀ x H', (Itl K pl).yld i H x H' → gName sa x (wipe σ [sa]) H' fun σ2 H2 => wipe σ2 [sa] = wipe σ [sa] ∧ tYes σ2 H2 fun b H3 =>
        if b = true then tLc (iList K (tVar sp)) (gName sb) tYes te [sb] σ2 H3 fun y H4 => ∃ acc, H4 D = some (.lst acc) ∧ acc.length < sizeLine ∧ Nx (upd H4 D (.lst (acc ++ [y]))) else Nx H3) := by
  have nDp : D ≠ p := hP.ne hD
  refine lc_list (K := K) (a := pl) (xs := plV m) (fun i H' => i ≤ m ∧ Dr p (k + 25 - 5 * i) H5 H' ∧ ∃ rs : List Addr, H' D = some (.lst (rs.map V.ref)) ∧ rs.length = i ∧ ∀ r ∈ rs, r ≠ p ∧ r ≠ D ∧ ∃ row : List Int, H' r = some (.lst (row.map V.int)) ∧ row.length = m ∧ ∀ z ∈ row, R z)
    ⟨Nat.zero_le _, (Dr.start hP (Nat.le_refl _)).new hD, [], upd_same, rfl, fun _ h => by cases h⟩ (fun i H' _ ⟨_, d, _⟩ => SqL.of (d.st npl hpl)) ?_ ?_
  · rintro i x H' hx ⟨_, d, rs, h1, h2, h3⟩
    obtain ⟨him, rfl⟩ := plV_at hx
    refine ⟨hw1 _, ?_⟩
    refine ⟨.ref pl, hv _, pl, rfl, ⟨_, SqL.of (d.st npl hpl)⟩, fun D2 hD2 => ?_⟩
    have nD2p : D2 ≠ p := d.2.ne hD2
    have nD2D : D2 ≠ D := fun z => by
      rw [z, h1] at hD2
      cases hD2
    have hD25 := d.fr hD2
    refine lc_list (K := K) (a := pl) (xs := plV m) (fun j H7 => j ≤ m ∧ Dr p (k + 25 - 5 * i - j) H' H7 ∧ ∃ row : List Int, H7 D2 = some (.lst (row.map V.int)) ∧ row.length = j ∧ ∀ z ∈ row, R z)
      ⟨Nat.zero_le _, (Dr.start d.2 (Nat.le_refl _)).new hD2, [], upd_same, rfl, fun _ h => by cases h⟩ (fun j H7 _ ⟨_, d7, _⟩ => SqL.of (d7.st npl (d.st npl hpl))) ?_ ?_
    · rintro j x H7 hx ⟨_, d7, row, g1, g2, g3⟩
      obtain ⟨hjm, rfl⟩ := plV_at hx
      refine ⟨hw2 _ _, ?_⟩
      refine hte i j (k + 25 - 5 * i - (j + 1)) H7 _ him hjm ((d.trans d7).mono (by omega)) fun z H8 hz d8 => ?_
      refine ⟨row.map V.int, d8.st nD2p g1, by rw [List.length_map]; exact small1000 (by omega), hjm, (d7.trans d8).mut hD2 nD2p, row ++ [z], ?_, by rw [List.length_append, g2]; rfl, fun y hy => ?_⟩
      · rw [upd_same, List.map_append]
        rfl
      · rcases List.mem_append.mp hy with q | q
        · exact g3 y q
        · rw [List.mem_singleton.mp q]
          exact hz
    · rintro H7 ⟨_, d7, row, g1, g2, g3⟩
      rw [plV_len] at d7 g2
      refine ⟨rs.map V.ref, d7.st nDp h1, by rw [List.length_map]; exact small1000 (by omega), him, ((d.trans d7).mut hD nDp).mono (by omega), rs ++ [D2], ?_, by rw [List.length_append, h2]; rfl, fun r hr => ?_⟩
      · rw [upd_same, List.map_append]
        rfl
      · rcases List.mem_append.mp hr with q | q
        · obtain ⟨a1, a2, row', a3, a4, a5⟩ := h3 r q
          exact ⟨a1, a2, row', by rw [upd_ne a2]; exact d7.st a1 a3, a4, a5⟩
        · rw [List.mem_singleton.mp q]
          exact ⟨nD2p, nD2D, row, by rw [upd_ne nD2D]; exact g1, g2, g3⟩
  · rintro H6 ⟨_, d, rs, h1, h2, h3⟩
    rw [plV_len] at d h2
    exact hd H6 ⟨rs, h1, nDp, h2, h3⟩ (d.mono (by omega))
end OG
set_option Elab.async false
set_option linter.all false
set_option maxRecDepth 100000
set_option maxHeartbeats 4000000
namespace OG
open PySem PySem.Spec PyProof.Rows L2
section
variable {X : Cx} (K : PySem.W.Frag)
theorem pi_listK {tg l : Expr} {tl : TE} (h : PE X l tl) (hK : X.K = K := by rfl) : PI X tg l (iList K tl) := hK ▸ pi_list h
theorem pi_tupK {tg l : Expr} {tl : TE} (h : PE X l tl) (hK : X.K = K := by rfl) : PI X tg l (iTup K tl) := hK ▸ pi_tup h
theorem ix_listK (hK : X.K = K := by rfl) : IxR X (rIxL K) := hK ▸ ix_list
theorem ix_tupK (hK : X.K = K := by rfl) : IxR X (rIxT K) := hK ▸ ix_tup
def rTupOf (K : PySem.W.Frag) : List V → Hp → VK → Prop := fun xs H Q => ∃ p ys, xs = [.ref p] ∧ ((SqL K H p ys ∧ ∀ l, H l = none → Q (.ref l) (upd H l (.tup ys))) ∨ (SqT K H p ys ∧ Q (.ref p) H))
theorem call_tuple_ofK (hK : X.K = K := by rfl) : CallR X (.type "tuple") (rTupOf K) := hK ▸ call_tuple_of
theorem op_in_seqK (hK : X.K = K := by rfl) : OpR X (compareOp .In) (rIn K false) := hK ▸ op_in_seq
theorem op_notIn_seqK (hK : X.K = K := by rfl) : OpR X (compareOp .NotIn) (rIn K true) := hK ▸ op_notIn_seq
def rJoin (K : PySem.W.Frag) : V → List V → Hp → VK → Prop := fun x xs H Q => ∃ a p, ∃ ys : List Str, x = .str a ∧ xs = [.ref p] ∧ (SqL K H p (ys.map V.str) ∨ SqT K H p (ys.map V.str)) ∧ (ys.map (·.length)).sum + ys.length * a.length ≤ 16777216 ∧ Q (.str (Txt.join a ys)) H
theorem mt_joinK (hK : X.K = K := by rfl) : MtR X "str.join" (rJoin K) := hK ▸ mt_join
theorem sl_listK (hK : X.K = K := by rfl) : SlR X (rSlL K) := hK ▸ sl_list
def rLenSeq (K : PySem.W.Frag) : List V → Hp → VK → Prop := fun xs H Q => ∃ p ys, xs = [.ref p] ∧ (SqL K H p ys ∨ SqT K H p ys) ∧ Q (.int ys.length) H
theorem call_len_seqK (hK : X.K = K := by rfl) : CallR X (.builtin "len") (rLenSeq K) := hK ▸ call_len_seq
theorem pg_tupK {es : List Expr} {k : Nat} {t : TGs} {n : Nat} {pos : Pos} (hc : X.calm = true) (h : PGs X es t) (hn : (assignEach es X.env).length = n := by rfl) (hst : (assignEach es X.env).findIdx? (·.1) = none := by rfl) (hK : X.K = K := by rfl) : PG X (.Tuple es k pos) (gTup K n t) := hK ▸ pg_tup hc h hn hst
end
end OG
set_option Elab.async false
set_option linter.all false
set_option maxRecDepth 100000
set_option maxHeartbeats 8000000
namespace OG
open PySem PySem.Spec PyProof.Rows L2
section
variable {P : Program} {w : World} {K : PySem.W.Frag} {mg : Str → Option Value} {base : Heap}
/-- an entry of a book's table -/
def TOk (b z : Int) : Prop := -1000000000000 ≤ z ∧ z ≤ 1000000000000 ∧ (0 < b → 0 ≤ z ∧ z < b)
/-- a tuple of m tuples of m entries -/
def Tab (b : Int) (H : Hp) (t : Addr) (m : Nat) (M : List (List Int)) : Prop := ∃ rs : List Addr, H t = some (.tup (rs.map V.ref)) ∧ rs.length = m ∧ M.length = m ∧
  (∀ (i : Nat) (r : Addr), rs[i]? = some r → ∃ row : List Int, M[i]? = some row ∧ H r = some (.tup (row.map V.int))) ∧ ∀ row ∈ M, row.length = m ∧ ∀ z ∈ row, TOk b z
theorem Tab.dr {b : Int} {p : Addr} {H H' : Hp} {t : Addr} {m k j : Nat} {M : List (List Int)} (h : Tab b H t m M) (hP : Pot j H p) (d : Dr p k H H') : Tab b H' t m M := by
  obtain ⟨rs, h1, h2, h3, h4, h5⟩ := h
  refine ⟨rs, d.st (hP.neT h1) h1, h2, h3, fun i r hr => ?_, h5⟩
  obtain ⟨row, e1, e2⟩ := h4 i r hr
  exact ⟨row, e1, d.st (hP.neT e2) e2⟩
theorem Tab.same {b : Int} {H H' : Hp} {t : Addr} {m : Nat} {M : List (List Int)} (h : Tab b H t m M) (s : Same H H') : Tab b H' t m M := by
  obtain ⟨rs, h1, h2, h3, h4, h5⟩ := h
  refine ⟨rs, s _ _ h1, h2, h3, fun i r hr => ?_, h5⟩
  obtain ⟨row, e1, e2⟩ := h4 i r hr
  exact ⟨row, e1, s _ _ e2⟩
def spTable : Sp := fun vs H Q _ => ∃ (p : Addr) (b : Int) (m k : Nat), vs = [.ref p, .int b, .int (m : Int)] ∧ Pot (k + 60) H p ∧ m ≤ 4 ∧ 1 ≤ m ∧ 0 ≤ b ∧ b ≠ 1 ∧ b ≤ 97 ∧
  ∀ (t : Addr) (M : List (List Int)) (H' : Hp), Tab b H' t m M → Dr p k H H' → H t = none → t ≠ p → Q (.ref t) H'
def R9 (z : Int) : Prop := -9 ≤ z ∧ z ≤ 9
def R12 (z : Int) : Prop := -1000000000000 ≤ z ∧ z ≤ 1000000000000
theorem r9_12 (z : Int) (h : R9 z) : R12 z := ⟨by have := h.1; omega, by have := h.2; omega⟩
theorem rx_le {x y : Int} (hx : R9 x) (hy : R9 y) : R12 (x * y) := by
  obtain ⟨a, b⟩ := hx
  obtain ⟨c, d⟩ := hy
  have h1 : (x * y).natAbs ≤ 9 * 9 := by
    rw [Int.natAbs_mul]
    exact Nat.mul_le_mul (by omega) (by omega)
  exact ⟨by omega, by omega⟩
theorem b01 (c : Bool) : R12 (if c then 1 else 0) := by
  cases c
  · exact ⟨by decide, by decide⟩
  · exact ⟨by decide, by decide⟩
theorem at_neg1 {xs : List V} {m : Nat} {v : V} (hl : xs.length = m) (hm : 1 ≤ m) (h : xs[m - 1]? = some v) : atI xs (-1) = some v := by
  have e : ixN xs.length (-1) = some (m - 1) := by
    unfold ixN
    rw [hl, if_neg (by decide), if_pos (by omega)]
    exact congrArg some (by omega)
  unfold atI
  rw [e]
  exact h
theorem ok_l_book_table (T : Txt K mg) : FnOk P w K mg base CX0 3 T.f_l_book_table T.fd_l_book_table ["pot", "by", "many"] (spTable) := by
  refine T.F_l_book_table.ok sc_l_book_table (fun vs H Q E h => ?_) (fun cdv A outer s H vs Q E hr h => ?_)
  · obtain ⟨p, b, m, k, rfl, _⟩ := h
    rfl
  · obtain ⟨p, b, m, k, rfl, hP, hm, hm1, b0, bn1, b97, q⟩ := h
    refine ⟨_, (pss_cons (ps_asg (pe_tup (pa_cons (pe_call (ok_l_take T) (hr.mono (by decide)) (by rfl) T.g_l_take T.F_l_take.kp T.b_l_take .nil pass0 (pa_cons (pv 0) (pa_cons pe_int pa_nil))) (pa_cons (pe_listRg (by rfl) (by rfl) T.n_list (prg_1 (by rfl) T.n_range (pv 2))) pa_nil))) (pg_tup (by rfl) (pgs_cons (pg_name (i := 3) sc_l_book_table.nd rfl (Or.inl rfl)) (pgs_cons (pg_name (i := 4) sc_l_book_table.nd rfl (Or.inr rfl)) pgs_nil))))
  (pss_cons (ps_asg (pe_call (ok_l_of T) (hr.mono (by decide)) (by rfl) T.g_l_of T.F_l_of.kp T.b_l_of .nil pass0 (pa_cons (pv 0) (pa_cons (pe_lst (pa_cons (pe_tup (pa_cons pe_int (pa_cons pe_int pa_nil))) (pa_cons (pe_tup (pa_cons pe_int (pa_cons pe_int pa_nil))) (pa_cons (pe_tup (pa_cons (pe_un un_neg pe_int) (pa_cons pe_int pa_nil))) (pa_cons (pe_tup (pa_cons (pe_un un_neg pe_int) (pa_cons pe_int pa_nil))) (pa_cons (pe_tup (pa_cons (pe_un un_neg pe_int) (pa_cons pe_int pa_nil))) pa_nil)))))) pa_nil))) (pg_tup (by rfl) (pgs_cons (pg_name (i := 5) sc_l_book_table.nd rfl (Or.inr rfl)) (pgs_cons (pg_name (i := 6) sc_l_book_table.nd rfl (Or.inr rfl)) pgs_nil))))
  (pss_cons (ps_set (i := 7) sc_l_book_table.nd rfl (Or.inr rfl) (pe_lc (own := [("a", 8)]) (g := gName 8) (by rfl) sc_l_book_table.nd (pi_list (pv 4)) (blkOk_by (own := [("a", 8)]) (by rfl)) (fun _ _ _ _ _ => (pg_name (i := 8) sc_l_book_table.nd rfl (Or.inl rfl))) (fun _ _ _ _ _ => pts_nil) (fun _ _ _ _ _ => (pe_lc (own := [("b", 9)]) (g := gName 9) (by rfl) sc_l_book_table.nd (pi_listK K (pv 4)) (blkOk_by (own := [("b", 9)]) (by rfl)) (fun _ _ _ _ _ => (pg_name (i := 9) sc_l_book_table.nd rfl (Or.inl rfl))) (fun _ _ _ _ _ => pts_nil) (fun _ _ _ _ _ => (pe_op op_add (pv 5) (pe_call (ok_l_take T) (hr.mono (by decide)) (by rfl) T.g_l_take T.F_l_take.kp T.b_l_take .nil pass0 (pa_cons (pv 0) (pa_cons (pe_op op_add (pe_op op_sub (pv 6) (pv 5)) pe_int) pa_nil)))))))))
  (pss_cons (ps_if (pt_cmpR op_eq (pv 3) pe_int (nomark _)) (pss_one (ps_set (i := 7) sc_l_book_table.nd rfl (Or.inr rfl) (pe_lc (own := [("a", 8)]) (g := gName 8) (by rfl) sc_l_book_table.nd (pi_list (pv 4)) (blkOk_by (own := [("a", 8)]) (by rfl)) (fun _ _ _ _ _ => (pg_name (i := 8) sc_l_book_table.nd rfl (Or.inr rfl))) (fun _ _ _ _ _ => pts_nil) (fun _ _ _ _ _ => (pe_lc (own := [("b", 9)]) (g := gName 9) (by rfl) sc_l_book_table.nd (pi_listK K (pv 4)) (blkOk_by (own := [("b", 9)]) (by rfl)) (fun _ _ _ _ _ => (pg_name (i := 9) sc_l_book_table.nd rfl (Or.inl rfl))) (fun _ _ _ _ _ => pts_nil) (fun _ _ _ _ _ => (pe_callTy call_int1 (by rfl) T.n_int (by decide +kernel) (pa_cons (pe_cmpR op_eq (pv 8) (pv 9) (nomark _)) pa_nil)))))))) (pss_one (ps_if (pt_cmpR op_eq (pv 3) pe_int (nomark _)) (pss_one (ps_set (i := 7) sc_l_book_table.nd rfl (Or.inr rfl) (pe_lc (own := [("a", 8)]) (g := gName 8) (by rfl) sc_l_book_table.nd (pi_list (pv 4)) (blkOk_by (own := [("a", 8)]) (by rfl)) (fun _ _ _ _ _ => (pg_name (i := 8) sc_l_book_table.nd rfl (Or.inr rfl))) (fun _ _ _ _ _ => pts_nil) (fun _ _ _ _ _ => (pe_lc (own := [("b", 9)]) (g := gName 9) (by rfl) sc_l_book_table.nd (pi_listK K (pv 4)) (blkOk_by (own := [("b", 9)]) (by rfl)) (fun _ _ _ _ _ => (pg_name (i := 9) sc_l_book_table.nd rfl (Or.inl rfl))) (fun _ _ _ _ _ => pts_nil) (fun _ _ _ _ _ => (pe_callTy call_int1 (by rfl) T.n_int (by decide +kernel) (pa_cons (pe_cmpR op_ne (pv 8) (pv 9) (nomark _)) pa_nil)))))))) (pss_one (ps_if (pt_cmpR op_eq (pv 3) pe_int (nomark _)) (pss_one (ps_set (i := 7) sc_l_book_table.nd rfl (Or.inr rfl) (pe_lc (own := [("a", 8)]) (g := gName 8) (by rfl) sc_l_book_table.nd (pi_list (pv 4)) (blkOk_by (own := [("a", 8)]) (by rfl)) (fun _ _ _ _ _ => (pg_name (i := 8) sc_l_book_table.nd rfl (Or.inr rfl))) (fun _ _ _ _ _ => pts_nil) (fun _ _ _ _ _ => (pe_lc (own := [("b", 9)]) (g := gName 9) (by rfl) sc_l_book_table.nd (pi_listK K (pv 4)) (blkOk_by (own := [("b", 9)]) (by rfl)) (fun _ _ _ _ _ => (pg_name (i := 9) sc_l_book_table.nd rfl (Or.inl rfl))) (fun _ _ _ _ _ => pts_nil) (fun _ _ _ _ _ => (pe_callTy call_int1 (by rfl) T.n_int (by decide +kernel) (pa_cons (pe_cmpR op_eq (pv 9) (pe_op op_mod (pe_callTy call_int1 (by rfl) T.n_int (by decide +kernel) (pa_cons (pe_op op_add (pv 8) pe_int) pa_nil)) (pv 2)) (nomark _)) pa_nil)))))))) (pss_one (ps_if (pt_cmpR op_lt (pv 3) pe_int (nomark _)) (pss_one (ps_set (i := 7) sc_l_book_table.nd rfl (Or.inr rfl) (pe_lc (own := [("a", 8)]) (g := gName 8) (by rfl) sc_l_book_table.nd (pi_list (pv 4)) (blkOk_by (own := [("a", 8)]) (by rfl)) (fun _ _ _ _ _ => (pg_name (i := 8) sc_l_book_table.nd rfl (Or.inr rfl))) (fun _ _ _ _ _ => pts_nil) (fun _ _ _ _ _ => (pe_lc (own := [("b", 9)]) (g := gName 9) (by rfl) sc_l_book_table.nd (pi_listK K (pv 4)) (blkOk_by (own := [("b", 9)]) (by rfl)) (fun _ _ _ _ _ => (pg_name (i := 9) sc_l_book_table.nd rfl (Or.inl rfl))) (fun _ _ _ _ _ => pts_nil) (fun _ _ _ _ _ => (pe_ix (ix_listK K) (pe_ix (ix_listK K) (pv 7) (pe_callB (call_min2 rfl) (by rfl) T.n_min (by decide +kernel) (pa_cons (pv 8) (pa_cons (pv 9) pa_nil))) (fun _ _ => rfl)) (pe_callB (call_max2 rfl) (by rfl) T.n_max (by decide +kernel) (pa_cons (pv 8) (pa_cons (pv 9) pa_nil))) (fun _ _ => rfl)))))))) (pss_one (ps_if (pt_cmpR op_eq (pv 3) pe_int (nomark _)) (pss_one (ps_set (i := 7) sc_l_book_table.nd rfl (Or.inr rfl) (pe_lc (own := [("a", 8)]) (g := gName 8) (by rfl) sc_l_book_table.nd (pi_list (pv 4)) (blkOk_by (own := [("a", 8)]) (by rfl)) (fun _ _ _ _ _ => (pg_name (i := 8) sc_l_book_table.nd rfl (Or.inr rfl))) (fun _ _ _ _ _ => pts_nil) (fun _ _ _ _ _ => (pe_lc (own := [("b", 9)]) (g := gName 9) (by rfl) sc_l_book_table.nd (pi_listK K (pv 4)) (blkOk_by (own := [("b", 9)]) (by rfl)) (fun _ _ _ _ _ => (pg_name (i := 9) sc_l_book_table.nd rfl (Or.inl rfl))) (fun _ _ _ _ _ => pts_nil) (fun _ _ _ _ _ => (pe_op op_mulW (pe_ix (ix_listK K) (pe_ix (ix_listK K) (pv 7) pe_int (fun _ _ => rfl)) (pv 8) (fun _ _ => rfl)) (pe_ix (ix_listK K) (pe_ix (ix_listK K) (pv 7) (pe_un un_neg pe_int) (fun _ _ => rfl)) (pv 9) (fun _ _ => rfl))))))))) (pss_one (ps_if (pt_cmpR op_eq (pv 3) pe_int (nomark _)) (pss_one (ps_set (i := 7) sc_l_book_table.nd rfl (Or.inr rfl) (pe_lc (own := [("a", 8)]) (g := gName 8) (by rfl) sc_l_book_table.nd (pi_list (pv 4)) (blkOk_by (own := [("a", 8)]) (by rfl)) (fun _ _ _ _ _ => (pg_name (i := 8) sc_l_book_table.nd rfl (Or.inl rfl))) (fun _ _ _ _ _ => pts_nil) (fun _ _ _ _ _ => (pe_lc (own := [("b", 9)]) (g := gName 9) (by rfl) sc_l_book_table.nd (pi_listK K (pv 4)) (blkOk_by (own := [("b", 9)]) (by rfl)) (fun _ _ _ _ _ => (pg_name (i := 9) sc_l_book_table.nd rfl (Or.inl rfl))) (fun _ _ _ _ _ => pts_nil) (fun _ _ _ _ _ => (pe_call (ok_l_of T) (hr.mono (by decide)) (by rfl) T.g_l_of T.F_l_of.kp T.b_l_of .nil pass0 (pa_cons (pv 0) (pa_cons (pe_lst (pa_cons (pe_op op_powW pe_int pe_int) (pa_cons (pe_un un_neg (pe_op op_powW pe_int pe_int)) (pa_cons pe_int (pa_cons pe_int (pa_cons (pe_op op_powW pe_int pe_int) pa_nil)))))) pa_nil))))))))) (pss_one (ps_if (pt_cmpR op_eq (pv 3) pe_int (nomark _)) (pss_one (ps_set (i := 7) sc_l_book_table.nd rfl (Or.inr rfl) (pe_lc (own := [("a", 8)]) (g := gName 8) (by rfl) sc_l_book_table.nd (pi_list (pv 4)) (blkOk_by (own := [("a", 8)]) (by rfl)) (fun _ _ _ _ _ => (pg_name (i := 8) sc_l_book_table.nd rfl (Or.inl rfl))) (fun _ _ _ _ _ => pts_nil) (fun _ _ _ _ _ => (pe_lc (own := [("b", 9)]) (g := gName 9) (by rfl) sc_l_book_table.nd (pi_listK K (pv 4)) (blkOk_by (own := [("b", 9)]) (by rfl)) (fun _ _ _ _ _ => (pg_name (i := 9) sc_l_book_table.nd rfl (Or.inl rfl))) (fun _ _ _ _ _ => pts_nil) (fun _ _ _ _ _ => pe_int)))))) pss_nil)))))))))))))
  (pss_one (ps_ret (pe_callTy call_tuple_of (by rfl) T.n_tuple (by decide +kernel) (pa_cons (pe_lc (own := [("row", 10)]) (g := gName 10) (by rfl) sc_l_book_table.nd (pi_list (pv 7)) (blkOk_by (own := [("row", 10)]) (by rfl)) (fun _ _ _ _ _ => (pg_name (i := 10) sc_l_book_table.nd rfl (Or.inl rfl))) (fun _ _ _ _ _ => pts_nil) (fun _ _ _ _ _ => (pe_callTy (call_tuple_ofK K) (by rfl) T.n_tuple (by decide +kernel) (pa_cons (pe_lc (own := [("n", 11)]) (g := gName 11) (by rfl) sc_l_book_table.nd (pi_listK K (pv 10)) (blkOk_by (own := [("n", 11)]) (by rfl)) (fun _ _ _ _ _ => (pg_name (i := 11) sc_l_book_table.nd rfl (Or.inl rfl))) (fun _ _ _ _ _ => pts_nil) (fun _ _ _ _ _ => (pe_ifExp (pt_cmpR op_gt (pv 1) pe_int (nomark _)) (pe_op op_mod (pe_callTy call_int1 (by rfl) T.n_int (by decide +kernel) (pa_cons (pv 11) pa_nil)) (pv 1)) (pv 11)))) pa_nil)))) pa_nil)))))))), ?_⟩
    refine ⟨.ref p, rfl, p, 10, k + 59, rfl, hP, by decide, by decide, fun way H1 w0 w1 d1 => ?_⟩
    refine ⟨.int m, rfl, m, rfl, RgOk.of_le (by decide) (by omega) (by decide) (by omega), fun pl hpl => ?_⟩
    have npl : pl ≠ p := d1.2.ne hpl
    have d2 := d1.new (o := .lst (plV m)) hpl
    refine ⟨(by show 2 ≤ sizeLine; decide), fun t1 ht1 => ?_⟩
    have d3 := d2.new (o := .tup [.int way, .ref pl]) ht1
    have hpl3 : (upd (upd H1 pl (.lst (plV m))) t1 (.tup [.int way, .ref pl])) pl = some (.lst (plV m)) := by
      rw [upd_ne (ne_new ht1).symm, upd_same]
    refine ⟨t1, _, rfl, SqT.of upd_same, rfl, _, _, rfl, _, _, rfl, rfl, ?_⟩
    refine ⟨.ref p, rfl, by decide, fun c1 hc1 => ?_⟩
    refine ⟨by decide, fun c2 hc2 => ?_⟩
    refine ⟨_, rfl, by decide, fun c3 hc3 => ?_⟩
    refine ⟨_, rfl, by decide, fun c4 hc4 => ?_⟩
    refine ⟨_, rfl, by decide, fun c5 hc5 => ?_⟩
    refine ⟨(by show 5 ≤ sizeLine; decide), fun l hl => ?_⟩
    have s1 := same_new (o := .tup [.int 0, .int 1]) hc1
    have s2 := same_new (o := .tup [.int 0, .int 1]) hc2
    have s3 := same_new (o := .tup [.int (-1), .int 1]) hc3
    have s4 := same_new (o := .tup [.int (-3), .int 3]) hc4
    have s5 := same_new (o := .tup [.int (-9), .int 9]) hc5
    have s6 := same_new (o := .lst [.ref c1, .ref c2, .ref c3, .ref c4, .ref c5]) hl
    have t6 := s6
    have t5 := s5.trans t6
    have t4 := s4.trans t5
    have t3 := s3.trans t4
    have t2 := s2.trans t3
    have t1' := s1.trans t2
    have d6 : Dr p (k + 59) H _ := ⟨d3.1.trans (Same.kp t1'), d3.2.same t1'⟩
    have nlp : l ≠ p := (d3.2.same (((((s1.trans s2).trans s3).trans s4).trans s5))).ne hl
    refine ⟨p, l, _, k + 58, rfl, d6.2.mono (by omega), SqL.of upd_same, nlp, (by show 0 < 5; decide), (by show 5 < 100000; decide), fun j x H7 hx d7 => ?_⟩
    have d67 := d6.trans d7
    have hc : ∃ (c : Addr) (lo hi : Int), x = .ref c ∧ H7 c = some (.tup [.int lo, .int hi]) ∧ -9 ≤ lo ∧ lo ≤ 0 ∧ 1 ≤ hi ∧ hi ≤ 9 := by
      have hx : [V.ref c1, V.ref c2, V.ref c3, V.ref c4, V.ref c5][j]? = some x := hx
      rcases j with _ | _ | _ | _ | _ | j
      · have u := t2 c1 _ upd_same
        exact ⟨c1, 0, 1, (Option.some.inj hx).symm, d7.st (d6.2.neT u) u, by decide, by decide, by decide, by decide⟩
      · have u := t3 c2 _ upd_same
        exact ⟨c2, 0, 1, (Option.some.inj hx).symm, d7.st (d6.2.neT u) u, by decide, by decide, by decide, by decide⟩
      · have u := t4 c3 _ upd_same
        exact ⟨c3, (-1), 1, (Option.some.inj hx).symm, d7.st (d6.2.neT u) u, by decide, by decide, by decide, by decide⟩
      · have u := t5 c4 _ upd_same
        exact ⟨c4, (-3), 3, (Option.some.inj hx).symm, d7.st (d6.2.neT u) u, by decide, by decide, by decide, by decide⟩
      · have u := t6 c5 _ upd_same
        exact ⟨c5, (-9), 9, (Option.some.inj hx).symm, d7.st (d6.2.neT u) u, by decide, by decide, by decide, by decide⟩
      · simp at hx
    obtain ⟨c, lo, hi, rfl, hcT, lo9, lo0, hi1, hi9⟩ := hc
    refine ⟨c, _, rfl, SqT.of hcT, rfl, _, _, rfl, _, _, rfl, rfl, ?_⟩
    have hpl7 : H7 pl = some (.lst (plV m)) := d7.st npl (t1' _ _ hpl3)
    refine ⟨.ref pl, rfl, pl, rfl, ⟨_, SqL.of hpl7⟩, fun S hS => ?_⟩
    refine lc_mat (sa := 8) (sb := 9) (sp := 4) (k := k + 33) R9 d7.2 hm hpl7 npl hS (fun a b j H' Q' ha hb d hq => ?_) (fun _ => rfl) (fun _ => rfl) (fun _ _ => rfl) (fun H8 hM d8 => ?_)
    · refine ⟨.int lo, rfl, .ref p, rfl, .int hi, rfl, .int lo, rfl, _, _, rfl, rfl, _, _, rfl, rfl, p, hi - lo + 1, j, rfl, d.2, by omega, by omega, fun r H4 r0 r1 d4 => ?_⟩
      exact ⟨lo, r, rfl, rfl, hq _ _ ⟨by omega, by omega⟩ d4⟩
    have d08 := d67.trans d8
    have hpl8 : H8 pl = some (.lst (plV m)) := d8.st npl hpl7
    dsimp only [gName]
    refine seq_fin (fun σ' H' => ∃ (S : Addr), σ' = [some (.ref p), some (.int b), some (.int m), some (.int way), some (.ref pl), some (.int lo), some (.int hi), some (.ref S), none, none, none, none] ∧ Mat R12 p H' S m ∧ Dr p k H H') ?_ (fun fin => ?_)
    · rintro σ' H' ⟨S, rfl, ⟨rs, h1, nSp, h3, h4⟩, d⟩
      refine ⟨.ref S, rfl, S, rfl, ⟨_, SqL.of h1⟩, fun D hD => ?_⟩
      refine lc_list (K := K) (a := S) (xs := rs.map V.ref) (fun i H2 => i ≤ m ∧ Same H' H2 ∧ ∃ (qs : List Addr) (M : List (List Int)), H2 D = some (.lst (qs.map V.ref)) ∧ qs.length = i ∧ M.length = i ∧
          (∀ (j : Nat) (q : Addr), qs[j]? = some q → q ≠ D ∧ ∃ row : List Int, M[j]? = some row ∧ H2 q = some (.tup (row.map V.int))) ∧ ∀ row ∈ M, row.length = m ∧ ∀ z ∈ row, TOk b z)
        ⟨Nat.zero_le _, same_new hD, [], [], upd_same, rfl, rfl, fun j q h => by simp at h, fun _ h => by cases h⟩ (fun i H2 _ ⟨_, s, _⟩ => SqL.of (s _ _ h1)) ?_ ?_
      · rintro i x H2 hx ⟨_, s, qs, M, g1, g2, g3, g4, g5⟩
        have him : i < m := by
          have := (List.getElem?_eq_some_iff.mp hx).1
          rw [List.length_map] at this
          omega
        have hr : rs[i]? = some (rs[i]'(by omega)) := List.getElem?_eq_getElem (by omega)
        obtain ⟨nrp, nrS, row, e1, e2, e3⟩ := h4 _ (List.mem_of_getElem? hr)
        have ex : x = .ref (rs[i]'(by omega)) := by
          rw [List.getElem?_map, hr] at hx
          exact (Option.some.inj hx).symm
        subst ex
        refine ⟨rfl, ?_⟩
        refine ⟨_, rfl, _, rfl, ⟨_, SqL.of (s _ _ e1)⟩, fun D2 hD2 => ?_⟩
        refine lc_list (K := K) (a := rs[i]'(by omega)) (xs := row.map V.int) (fun j H3 => j ≤ m ∧ Same H2 H3 ∧ ∃ zs : List Int, H3 D2 = some (.lst (zs.map V.int)) ∧ zs.length = j ∧ ∀ z ∈ zs, TOk b z)
          ⟨Nat.zero_le _, same_new hD2, [], upd_same, rfl, fun _ h => by cases h⟩ (fun j H3 _ ⟨_, s3, _⟩ => SqL.of (s3 _ _ (s _ _ e1))) ?_ ?_
        · rintro j x H3 hx ⟨_, s3, zs, f1, f2, f3⟩
          have hjm : j < m := by
            have := (List.getElem?_eq_some_iff.mp hx).1
            rw [List.length_map] at this
            omega
          obtain ⟨z, hz, rfl⟩ := at_of hx
          obtain ⟨z1, z2⟩ := e3 z hz
          refine ⟨rfl, ?_⟩
          have go : ∀ y : Int, TOk b y → ∃ acc, H3 D2 = some (.lst acc) ∧ acc.length < sizeLine ∧ j + 1 ≤ m ∧ Same H2 (upd H3 D2 (.lst (acc ++ [V.int y]))) ∧ ∃ zs : List Int, (upd H3 D2 (.lst (acc ++ [V.int y]))) D2 = some (.lst (zs.map V.int)) ∧ zs.length = j + 1 ∧ ∀ z ∈ zs, TOk b z := fun y hy => by
            refine ⟨_, f1, by rw [List.length_map]; exact small1000 (by omega), hjm, fun a o ho => ?_, zs ++ [y], ?_, by rw [List.length_append, f2]; rfl, fun u hu => ?_⟩
            · rw [upd_ne (ne_of_none ho hD2)]
              exact s3 _ _ ho
            · rw [upd_same, List.map_append]
              rfl
            · rcases List.mem_append.mp hu with v | v
              · exact f3 u v
              · rw [List.mem_singleton.mp v]
                exact hy
          refine ⟨.int b, rfl, _, _, rfl, rfl, _, rfl, ite2 (fun hb => ?_) (fun hb => ?_)⟩
          · have hb : 0 < b := of_decide_eq_true hb
            refine ⟨_, rfl, .inl ⟨_, rfl, ?_⟩⟩
            refine ⟨.int b, rfl, _, _, rfl, rfl, hb, ?_⟩
            have m0 := Int.emod_nonneg z (show b ≠ 0 by omega)
            have m1 := Int.emod_lt_of_pos z hb
            exact go _ ⟨by omega, by omega, fun _ => ⟨m0, m1⟩⟩
          · have hb : ¬ 0 < b := of_decide_eq_false (Bool.eq_false_iff.mpr hb)
            exact ⟨_, rfl, go _ ⟨z1, z2, fun h => absurd h hb⟩⟩
        · rintro H3 ⟨_, s3, zs, f1, f2, f3⟩
          rw [List.length_map, e2] at f2
          refine ⟨D2, _, rfl, .inl ⟨SqL.of f1, fun t ht => ?_⟩⟩
          have s4 := s3.trans (same_new (o := .tup (zs.map V.int)) ht)
          have nDt : D ≠ t := ne_of_none (s3 _ _ g1) ht
          refine ⟨_, s4 _ _ g1, by rw [List.length_map]; exact small1000 (by omega), him, fun a o ho => ?_, qs ++ [t], M ++ [zs], ?_, by rw [List.length_append, g2]; rfl, by rw [List.length_append, g3]; rfl, fun j q hq => ?_, fun r hr => ?_⟩
          · rw [upd_ne (ne_of_none ho hD)]
            exact s4 _ _ (s _ _ ho)
          · rw [upd_same, List.map_append]
            rfl
          · by_cases hj : j < qs.length
            · rw [List.getElem?_append_left hj] at hq
              obtain ⟨k1, row', k2, k3⟩ := g4 j q hq
              exact ⟨k1, row', by rw [List.getElem?_append_left (by omega)]; exact k2, by rw [upd_ne k1]; exact s4 _ _ k3⟩
            · rw [List.getElem?_append_right (by omega)] at hq
              have hj0 : j - qs.length = 0 := by
                have := (List.getElem?_eq_some_iff.mp hq).1
                simp only [List.length_singleton] at this
                omega
              rw [hj0] at hq
              have eq : t = q := Option.some.inj hq
              subst eq
              refine ⟨nDt.symm, zs, ?_, by rw [upd_ne nDt.symm, upd_same]⟩
              rw [List.getElem?_append_right (by omega), show j - M.length = 0 by omega]
              rfl
          · rcases List.mem_append.mp hr with v | v
            · exact g5 r v
            · rw [List.mem_singleton.mp v]
              exact ⟨f2, f3⟩
      · rintro H2 ⟨_, s, qs, M, g1, g2, g3, g4, g5⟩
        rw [List.length_map, h3] at g2 g3
        refine ⟨D, _, rfl, .inl ⟨SqL.of g1, fun t ht => ?_⟩⟩
        have s2 := s.trans (same_new (o := .tup (qs.map V.ref)) ht)
        refine q t M _ ⟨qs, upd_same, g2, g3, fun i r hr => ?_, g5⟩ ⟨d.1.trans (Same.kp s2), d.2.same s2⟩ (d.fr (s.free ht)) ((d.2.same s).ne ht)
        obtain ⟨k1, row, k2, k3⟩ := g4 i r hr
        exact ⟨row, k2, by rw [upd_ne (ne_of_none k3 ht)]; exact k3⟩
    · refine ⟨.int way, rfl, rfl, _, rfl, ite2 (fun _ => ?_) (fun _ => ?_)⟩
      · refine ⟨.ref pl, rfl, pl, rfl, ⟨_, SqL.of hpl8⟩, fun S2 hS2 => ?_⟩
        refine lc_mat (sa := 8) (sb := 9) (sp := 4) (k := k + 5) R12 (d8.2.mono (by omega)) hm hpl8 npl hS2 (fun a c j H' Q' ha hc d hq => ?_) (fun _ => rfl) (fun _ => rfl) (fun _ _ => rfl) (fun H9 hM9 d9 => fin _ _ ⟨S2, rfl, hM9, (d08.trans d9).mono (by omega)⟩)
        refine ⟨.int a, rfl, .int c, rfl, rfl, ?_⟩
        exact .inr ⟨_, rfl, hq _ _ (b01 _) (Dr.start d.2 (by omega))⟩
      · refine ⟨.int way, rfl, rfl, _, rfl, ite2 (fun _ => ?_) (fun _ => ?_)⟩
        · refine ⟨.ref pl, rfl, pl, rfl, ⟨_, SqL.of hpl8⟩, fun S2 hS2 => ?_⟩
          refine lc_mat (sa := 8) (sb := 9) (sp := 4) (k := k + 5) R12 (d8.2.mono (by omega)) hm hpl8 npl hS2 (fun a c j H' Q' ha hc d hq => ?_) (fun _ => rfl) (fun _ => rfl) (fun _ _ => rfl) (fun H9 hM9 d9 => fin _ _ ⟨S2, rfl, hM9, (d08.trans d9).mono (by omega)⟩)
          refine ⟨.int a, rfl, .int c, rfl, rfl, ?_⟩
          exact .inr ⟨_, rfl, hq _ _ (b01 _) (Dr.start d.2 (by omega))⟩
        · refine ⟨.int way, rfl, rfl, _, rfl, ite2 (fun _ => ?_) (fun _ => ?_)⟩
          · refine ⟨.ref pl, rfl, pl, rfl, ⟨_, SqL.of hpl8⟩, fun S2 hS2 => ?_⟩
            refine lc_mat (sa := 8) (sb := 9) (sp := 4) (k := k + 5) R12 (d8.2.mono (by omega)) hm hpl8 npl hS2 (fun a c j H' Q' ha hc d hq => ?_) (fun _ => rfl) (fun _ => rfl) (fun _ _ => rfl) (fun H9 hM9 d9 => fin _ _ ⟨S2, rfl, hM9, (d08.trans d9).mono (by omega)⟩)
            refine ⟨.int c, rfl, .int a, rfl, _, _, rfl, rfl, .inl ⟨_, rfl, ?_⟩⟩
            refine ⟨.int m, rfl, _, _, rfl, rfl, (by show (0 : Int) < m; omega), rfl, ?_⟩
            exact .inr ⟨_, rfl, hq _ _ (b01 _) (Dr.start d.2 (by omega))⟩
          · refine ⟨.int way, rfl, _, _, rfl, rfl, _, rfl, ite2 (fun _ => ?_) (fun _ => ?_)⟩
            · refine ⟨.ref pl, rfl, pl, rfl, ⟨_, SqL.of hpl8⟩, fun S2 hS2 => ?_⟩
              refine lc_mat (sa := 8) (sb := 9) (sp := 4) (k := k + 5) R12 (d8.2.mono (by omega)) hm hpl8 npl hS2 (fun a c j H' Q' ha hc d hq => ?_) (fun _ => rfl) (fun _ => rfl) (fun _ _ => rfl) (fun H9 hM9 d9 => fin _ _ ⟨S2, rfl, hM9, (d08.trans d9).mono (by omega)⟩)
              have hM' := hM.dr d
              obtain ⟨x1, hx1, hx2⟩ : ∃ x : Nat, x < m ∧ (if ((c : Nat) : Int) < ((a : Nat) : Int) then ((c : Nat) : Int) else ((a : Nat) : Int)) = (x : Int) := by
                by_cases e : ((c : Nat) : Int) < ((a : Nat) : Int)
                · exact ⟨c, hc, if_pos e⟩
                · exact ⟨a, ha, if_neg e⟩
              obtain ⟨y1, hy1, hy2⟩ : ∃ x : Nat, x < m ∧ (if ((c : Nat) : Int) > ((a : Nat) : Int) then ((c : Nat) : Int) else ((a : Nat) : Int)) = (x : Int) := by
                by_cases e : ((c : Nat) : Int) > ((a : Nat) : Int)
                · exact ⟨c, hc, if_pos e⟩
                · exact ⟨a, ha, if_neg e⟩
              obtain ⟨rs, r, row, m1, m2, m3, m4, m5, m6⟩ := hM'.row hx1
              obtain ⟨z, z1, z2⟩ := row_at m5 m6 hy1
              refine ⟨.ref S, rfl, .int a, rfl, .int c, rfl, _, _, rfl, ?_⟩
              refine ⟨S, _, (x1 : Int), _, rfl, congrArg V.int hx2, SqL.of m1, atI_nat m3, ?_⟩
              refine ⟨.int a, rfl, .int c, rfl, _, _, rfl, ?_⟩
              refine ⟨r, _, (y1 : Int), _, rfl, congrArg V.int hy2, SqL.of m4, atI_nat z1, ?_⟩
              exact hq _ _ (r9_12 _ z2) (Dr.start d.2 (by omega))
            · refine ⟨.int way, rfl, rfl, _, rfl, ite2 (fun _ => ?_) (fun _ => ?_)⟩
              · refine ⟨.ref pl, rfl, pl, rfl, ⟨_, SqL.of hpl8⟩, fun S2 hS2 => ?_⟩
                refine lc_mat (sa := 8) (sb := 9) (sp := 4) (k := k + 5) R12 (d8.2.mono (by omega)) hm hpl8 npl hS2 (fun a c j H' Q' ha hc d hq => ?_) (fun _ => rfl) (fun _ => rfl) (fun _ _ => rfl) (fun H9 hM9 d9 => fin _ _ ⟨S2, rfl, hM9, (d08.trans d9).mono (by omega)⟩)
                have hM' := hM.dr d
                obtain ⟨rs, r, row, m1, m2, m3, m4, m5, m6⟩ := hM'.row (show 0 < m by omega)
                obtain ⟨z, z1, z2⟩ := row_at m5 m6 ha
                obtain ⟨rs', r', row', m1', m2', m3', m4', m5', m6'⟩ := hM'.row (show m - 1 < m by omega)
                obtain ⟨y, y1, y2⟩ := row_at m5' m6' hc
                have nb := rx_le z2 y2
                refine ⟨.ref S, rfl, S, _, ((0 : Nat) : Int), _, rfl, rfl, SqL.of m1, atI_nat m3, ?_⟩
                refine ⟨.int a, rfl, r, _, (a : Int), _, rfl, rfl, SqL.of m4, atI_nat z1, ?_⟩
                refine ⟨.ref S, rfl, _, rfl, S, _, _, _, rfl, rfl, SqL.of m1', at_neg1 (by rw [List.length_map, m2']) hm1 m3', ?_⟩
                refine ⟨.int c, rfl, r', _, (c : Int), _, rfl, rfl, SqL.of m4', atI_nat y1, ?_⟩
                refine ⟨_, _, rfl, rfl, wide_mul (a := 10) (b := 10) (by have := z2.1; have := z2.2; omega) (by have := y2.1; have := y2.2; omega) (by decide) (by decide) (by decide), ?_⟩
                exact hq _ _ nb (Dr.start d.2 (by omega))
              · refine ⟨.int way, rfl, rfl, _, rfl, ite2 (fun _ => ?_) (fun _ => ?_)⟩
                · refine ⟨.ref pl, rfl, pl, rfl, ⟨_, SqL.of hpl8⟩, fun S2 hS2 => ?_⟩
                  refine lc_mat (sa := 8) (sb := 9) (sp := 4) (k := k + 5) R12 (d8.2.mono (by omega)) hm hpl8 npl hS2 (fun a c j H' Q' ha hc d hq => ?_) (fun _ => rfl) (fun _ => rfl) (fun _ _ => rfl) (fun H9 hM9 d9 => fin _ _ ⟨S2, rfl, hM9, (d08.trans d9).mono (by omega)⟩)
                  refine ⟨.ref p, rfl, _, _, rfl, rfl, pow_c (by decide), _, _, rfl, rfl, pow_c (by decide), _, rfl, _, _, rfl, rfl, pow_c (by decide), by decide, fun l hl => ?_⟩
                  have nlp : l ≠ p := d.2.ne hl
                  refine ⟨p, l, _, j, rfl, d.2.same (same_new hl), SqL.of upd_same, nlp, by decide, by decide, fun e x H4 hx d4 => ?_⟩
                  have d5 : Dr p j H' H4 := (Dr.new (Dr.start d.2 (Nat.le_refl _)) hl).trans d4
                  have hx : [V.int 1000000000000, V.int (-1000000000000), V.int 0, V.int 1, V.int 1000000][e]? = some x := hx
                  rcases e with _ | _ | _ | _ | _ | e
                  · have ex := Option.some.inj hx
                    rw [← ex]
                    exact hq _ _ ⟨by decide, by decide⟩ d5
                  · have ex := Option.some.inj hx
                    rw [← ex]
                    exact hq _ _ ⟨by decide, by decide⟩ d5
                  · have ex := Option.some.inj hx
                    rw [← ex]
                    exact hq _ _ ⟨by decide, by decide⟩ d5
                  · have ex := Option.some.inj hx
                    rw [← ex]
                    exact hq _ _ ⟨by decide, by decide⟩ d5
                  · have ex := Option.some.inj hx
                    rw [← ex]
                    exact hq _ _ ⟨by decide, by decide⟩ d5
                  · simp at hx
                · refine ⟨.int way, rfl, rfl, _, rfl, ite2 (fun _ => ?_) (fun _ => ?_)⟩
                  · refine ⟨.ref pl, rfl, pl, rfl, ⟨_, SqL.of hpl8⟩, fun S2 hS2 => ?_⟩
                    refine lc_mat (sa := 8) (sb := 9) (sp := 4) (k := k + 5) R12 (d8.2.mono (by omega)) hm hpl8 npl hS2 (fun a c j H' Q' ha hc d hq => ?_) (fun _ => rfl) (fun _ => rfl) (fun _ _ => rfl) (fun H9 hM9 d9 => fin _ _ ⟨S2, rfl, hM9, (d08.trans d9).mono (by omega)⟩)
                    exact hq _ _ ⟨by decide, by decide⟩ (Dr.start d.2 (by omega))
                  · exact fin _ _ ⟨S, rfl, hM.imp r9_12, d08.mono (by omega)⟩
end
end OG
set_option Elab.async false
set_option linter.all false
set_option maxRecDepth 100000
set_option maxHeartbeats 4000000
namespace OG
open PySem PySem.Spec PyProof.Rows L2
theorem merge_new : ∀ {more kvs : List (Key × V)}, (more.map (·.1)).Nodup → (∀ kv ∈ more, valV kvs kv.1 = none) → mergeK kvs more = kvs ++ more
  | [], kvs, _, _ => by
    rw [List.append_nil]
    rfl
  | kv :: r, kvs, h, hn => by
    rw [List.map_cons, List.nodup_cons] at h
    have e : mergeK kvs (kv :: r) = mergeK (putK kvs kv.1 kv.2) r := rfl
    have e1 := putK_new kv.2 (hn kv List.mem_cons_self)
    rw [e, e1, merge_new h.2 fun x hx => ?_, List.append_assoc]
    · rfl
    · rw [valV_snoc _ _ _ _ (hn kv List.mem_cons_self), if_neg fun z => h.1 (by rw [← z]; exact List.mem_map_of_mem hx)]
      exact hn x (List.mem_cons_of_mem _ hx)
theorem merge0 {more : List (Key × V)} (h : (more.map (·.1)).Nodup) : mergeK [] more = more := by
  rw [merge_new h fun _ _ => rfl]
  rfl
theorem dget {H : Hp} {o : Addr} {kvs : List (Key × V)} {s : Str} {v : V} (h : H o = some (.dK kvs)) (hv : valV kvs (.inr s) = some v) : DGet H o (.str s) (some v) := .inl ⟨kvs, .inr s, .inl h, rfl, hv.symm⟩
theorem putK_nd {kvs : List (Key × V)} {k : Key} {v : V} (h : (kvs.map (·.1)).Nodup) : ((putK kvs k v).map (·.1)).Nodup := by
  unfold putK
  split
  · rw [List.map_map, show ((fun x : Key × V => x.1) ∘ fun kv => if kv.1 = k then (kv.1, v) else kv) = (fun x => x.1) from funext fun kv => by
      show (if kv.1 = k then (kv.1, v) else kv).1 = kv.1
      split <;> rfl]
    exact h
  · rename_i e
    rw [List.map_append, List.nodup_append]
    refine ⟨h, by simp, fun a ha b hb z => ?_⟩
    obtain ⟨kv, h1, rfl⟩ := List.mem_map.mp ha
    have eb : b = k := by simpa using hb
    exact e (List.any_eq_true.mpr ⟨kv, h1, decide_eq_true (z.trans eb)⟩)
/-- what is right of a drawn book -/
structure BkOk (b : Int) (m : Nat) (ms : List Str) (ws : List Int) (ks : List Str) (Ms : List (List (List Int))) : Prop where
  b0 : 0 ≤ b
  b1 : b ≠ 1
  b97 : b ≤ 97
  m1 : 1 ≤ m
  m4 : m ≤ 4
  nm : Nms ms m
  wl : ws.length = m
  w : ∀ z ∈ ws, WOk b z
  nk : Nms ks ks.length
  k1 : 1 ≤ ks.length
  k3 : ks.length ≤ 3
  ml : Ms.length = ks.length
def TabsAt (b : Int) (m : Nat) (H : Hp) (td : Addr) (ks : List Str) (Ms : List (List (List Int))) : Prop := ∃ tkvs : List (Key × V), H td = some (.dK tkvs) ∧ (tkvs.map (·.1)).Nodup ∧ tkvs.length ≤ 10 ∧
  ∀ (i : Nat) (k : Str), ks[i]? = some k → ∃ (t : Addr) (M : List (List Int)), valV tkvs (.inr k) = some (.ref t) ∧ Ms[i]? = some M ∧ Tab b H t m M
/-- the dict of a drawn book -/
def BookAt (H : Hp) (o : Addr) (b : Int) (m : Nat) (ms : List Str) (ws : List Int) (ks : List Str) (Ms : List (List (List Int))) : Prop := ∃ (kvs : List (Key × V)) (tm tw tk td : Addr),
  H o = some (.dK kvs) ∧ kvs.length ≤ 10 ∧ valV kvs (.inr "by") = some (.int b) ∧ valV kvs (.inr "marks") = some (.ref tm) ∧ H tm = some (.tup (ms.map V.str)) ∧ valV kvs (.inr "weights") = some (.ref tw) ∧ H tw = some (.tup (ws.map V.int)) ∧
  valV kvs (.inr "kinds") = some (.ref tk) ∧ H tk = some (.tup (ks.map V.str)) ∧ valV kvs (.inr "tables") = some (.ref td) ∧ TabsAt b m H td ks Ms
theorem TabsAt.same {b : Int} {m : Nat} {H H' : Hp} {td : Addr} {ks : List Str} {Ms : List (List (List Int))} (h : TabsAt b m H td ks Ms) (s : Same H H') : TabsAt b m H' td ks Ms := by
  obtain ⟨tkvs, h1, hn, hl, h2⟩ := h
  refine ⟨tkvs, s _ _ h1, hn, hl, fun i k hk => ?_⟩
  obtain ⟨t, M, e1, e2, e3⟩ := h2 i k hk
  exact ⟨t, M, e1, e2, e3.same s⟩
theorem TabsAt.dr {b : Int} {m : Nat} {H H' : Hp} {p td : Addr} {j k : Nat} {ks : List Str} {Ms : List (List (List Int))} (h : TabsAt b m H td ks Ms) (hP : Pot j H p) (d : Dr p k H H') : TabsAt b m H' td ks Ms := by
  obtain ⟨tkvs, h1, hn, hl, h2⟩ := h
  refine ⟨tkvs, d.st (hP.neD h1) h1, hn, hl, fun i k hk => ?_⟩
  obtain ⟨t, M, e1, e2, e3⟩ := h2 i k hk
  exact ⟨t, M, e1, e2, e3.dr hP d⟩
theorem BookAt.same {H H' : Hp} {o : Addr} {b : Int} {m : Nat} {ms ks : List Str} {ws : List Int} {Ms : List (List (List Int))} (h : BookAt H o b m ms ws ks Ms) (s : Same H H') : BookAt H' o b m ms ws ks Ms := by
  obtain ⟨kvs, tm, tw, tk, td, h1, h2, h3, h4, h5, h6, h7, h8, h9, h10, h11⟩ := h
  exact ⟨kvs, tm, tw, tk, td, s _ _ h1, h2, h3, h4, s _ _ h5, h6, s _ _ h7, h8, s _ _ h9, h10, h11.same s⟩
theorem BookAt.dr {H H' : Hp} {p o : Addr} {b : Int} {m j k : Nat} {ms ks : List Str} {ws : List Int} {Ms : List (List (List Int))} (h : BookAt H o b m ms ws ks Ms) (hP : Pot j H p) (d : Dr p k H H') : BookAt H' o b m ms ws ks Ms := by
  obtain ⟨kvs, tm, tw, tk, td, h1, h2, h3, h4, h5, h6, h7, h8, h9, h10, h11⟩ := h
  exact ⟨kvs, tm, tw, tk, td, d.st (hP.neD h1) h1, h2, h3, h4, d.st (hP.neT h5) h5, h6, d.st (hP.neT h7) h7, h8, d.st (hP.neT h9) h9, h10, h11.dr hP d⟩
def dict5 (b : Int) (tm tw tk td : Addr) : List (Key × V) := [(.inr "by", .int b), (.inr "marks", .ref tm), (.inr "weights", .ref tw), (.inr "kinds", .ref tk), (.inr "tables", .ref td)]
theorem dict5_nd (b : Int) (tm tw tk td : Addr) : ((dict5 b tm tw tk td).map (·.1)).Nodup := by
  show ([.inr "by", .inr "marks", .inr "weights", .inr "kinds", .inr "tables"] : List Key).Nodup
  decide +kernel
theorem k_ne {a b : Str} (h : ¬ a = b) : ¬ (Sum.inr a : Key) = Sum.inr b := fun z => h (Sum.inr.inj z)
theorem dict5_at (b : Int) (tm tw tk td : Addr) : valV (dict5 b tm tw tk td) (.inr "by") = some (.int b) ∧ valV (dict5 b tm tw tk td) (.inr "marks") = some (.ref tm) ∧ valV (dict5 b tm tw tk td) (.inr "weights") = some (.ref tw) ∧
    valV (dict5 b tm tw tk td) (.inr "kinds") = some (.ref tk) ∧ valV (dict5 b tm tw tk td) (.inr "tables") = some (.ref td) := by
  unfold dict5
  refine ⟨valV_pos rfl, ?_, ?_, ?_, ?_⟩
  · rw [valV_neg (k_ne (by decide +kernel)), valV_pos rfl]
  · rw [valV_neg (k_ne (by decide +kernel)), valV_neg (k_ne (by decide +kernel)), valV_pos rfl]
  · rw [valV_neg (k_ne (by decide +kernel)), valV_neg (k_ne (by decide +kernel)), valV_neg (k_ne (by decide +kernel)), valV_pos rfl]
  · rw [valV_neg (k_ne (by decide +kernel)), valV_neg (k_ne (by decide +kernel)), valV_neg (k_ne (by decide +kernel)), valV_neg (k_ne (by decide +kernel)), valV_pos rfl]
end OG
set_option Elab.async false
set_option linter.all false
set_option maxRecDepth 100000
set_option maxHeartbeats 8000000
namespace OG
open PySem PySem.Spec PyProof.Rows L2
section
variable {P : Program} {w : World} {K : PySem.W.Frag} {mg : Str → Option Value} {base : Heap}
def spTwin : Sp := fun vs H Q _ => ∃ (o : Addr) (x y : Nat) (b : Int) (m : Nat) (ms ks : List Str) (ws : List Int) (Ms : List (List (List Int))), vs = [.ref o, .int (x : Int), .int (y : Int)] ∧ BookAt H o b m ms ws ks Ms ∧ BkOk b m ms ws ks Ms ∧ x < m ∧
  ∀ (q : Addr) (Ms' : List (List (List Int))) (H' : Hp), Same H H' → H q = none → BookAt H' q b m ms ws ks Ms' → BkOk b m ms ws ks Ms' → Q (.ref q) H'
/-- the rows at the places of the list -/
theorem Tab.at {b : Int} {H : Hp} {t : Addr} {m : Nat} {M : List (List Int)} (h : Tab b H t m M) {i j : Nat} (hi : i < m) (hj : j < m) : ∃ (rs : List V) (r : Addr) (row : List Int) (z : Int), H t = some (.tup rs) ∧ rs[i]? = some (.ref r) ∧ H r = some (.tup (row.map V.int)) ∧ (row.map V.int)[j]? = some (.int z) ∧ TOk b z := by
  obtain ⟨rs, h1, h2, h3, h4, h5⟩ := h
  have hr : rs[i]? = some (rs[i]'(by omega)) := List.getElem?_eq_getElem (by omega)
  obtain ⟨row, e1, e2⟩ := h4 i _ hr
  obtain ⟨f1, f2⟩ := h5 row (List.mem_of_getElem? e1)
  obtain ⟨z, z1, z2⟩ := row_at f1 f2 hj
  refine ⟨_, _, row, z, h1, ?_, e2, z1, z2⟩
  rw [List.getElem?_map, hr]
  rfl
theorem nat_at {ns : List Nat} {i : Nat} {x : V} (h : (ns.map fun (n : Nat) => V.int (n : Int))[i]? = some x) : ∃ n, n ∈ ns ∧ x = .int (n : Int) := by
  rw [List.getElem?_map] at h
  cases e : ns[i]? with
  | none =>
    rw [e] at h
    cases h
  | some n =>
    rw [e] at h
    exact ⟨n, List.mem_of_getElem? e, (Option.some.inj h).symm⟩
theorem ok_l_book_twinned (T : Txt K mg) : FnOk P w K mg base CX0 1 T.f_l_book_twinned T.fd_l_book_twinned ["own", "one", "other"] (spTwin) := by
  refine T.F_l_book_twinned.ok sc_l_book_twinned (fun vs H Q E h => ?_) (fun cdv A outer s H vs Q E hr h => ?_)
  · obtain ⟨o, x, y, b, m, ms, ks, ws, Ms, rfl, _⟩ := h
    rfl
  · obtain ⟨o, x, y, b, m, ms, ks, ws, Ms, rfl, hB, ok, hx, q⟩ := h
    refine ⟨_, (pss_cons (ps_asg (pe_tup (pa_cons pe_dnewK (pa_cons (pe_lc (own := [("at", 6)]) (g := gName 6) (by rfl) sc_l_book_twinned.nd (pi_range1 (by rfl) T.n_range (pa_cons (pe_callB call_len_seq (by rfl) T.n_len PySem.boot_len (pa_cons (pe_dget (hu_of hr) (pv 0) pe_str (fun _ _ => rfl)) pa_nil)) pa_nil)) (blkOk_by (own := [("at", 6)]) (by rfl)) (fun _ _ _ _ _ => (pg_name (i := 6) sc_l_book_twinned.nd rfl (Or.inl rfl))) (fun _ _ _ _ _ => pts_nil) (fun _ _ _ _ _ => (pe_ifExp (pt_cmpR op_eq (pv 6) (pv 2) (nomark _)) (pv 1) (pv 6)))) pa_nil))) (pg_tup (by rfl) (pgs_cons (pg_name (i := 3) sc_l_book_twinned.nd rfl (Or.inl rfl)) (pgs_cons (pg_name (i := 4) sc_l_book_twinned.nd rfl (Or.inr rfl)) pgs_nil))))
  (pss_cons (ps_for PassesOwn.never rfl (pi_tup (pe_dget (hu_of hr) (pv 0) pe_str (fun _ _ => rfl))) (pg_name (i := 5) sc_l_book_twinned.nd rfl (Or.inr rfl)) (pss_one (ps_dput (hu_of hr) (pv 3) (pv 5) (pe_callTy call_tuple_of (by rfl) T.n_tuple (by decide +kernel) (pa_cons (pe_lc (own := [("a", 7)]) (g := gName 7) (by rfl) sc_l_book_twinned.nd (pi_list (pv 4)) (blkOk_by (own := [("a", 7)]) (by rfl)) (fun _ _ _ _ _ => (pg_name (i := 7) sc_l_book_twinned.nd rfl (Or.inr rfl))) (fun _ _ _ _ _ => pts_nil) (fun _ _ _ _ _ => (pe_callTy (call_tuple_ofK K) (by rfl) T.n_tuple (by decide +kernel) (pa_cons (pe_lc (own := [("b", 8)]) (g := gName 8) (by rfl) sc_l_book_twinned.nd (pi_listK K (pv 4)) (blkOk_by (own := [("b", 8)]) (by rfl)) (fun _ _ _ _ _ => (pg_name (i := 8) sc_l_book_twinned.nd rfl (Or.inl rfl))) (fun _ _ _ _ _ => pts_nil) (fun _ _ _ _ _ => (pe_ix (ix_tupK K) (pe_ix (ix_tupK K) (pe_dget (hu_of hr) (pe_dget (hu_of hr) (pv 0) pe_str (fun _ _ => rfl)) (pv 5) (fun _ _ => rfl)) (pv 7) (fun _ _ => rfl)) (pv 8) (fun _ _ => rfl)))) pa_nil)))) pa_nil)) rfl)))
  (pss_one (ps_ret (pe_disp (pps_cons pe_str (pe_dget (hu_of hr) (pv 0) pe_str (fun _ _ => rfl)) (pps_cons pe_str (pe_dget (hu_of hr) (pv 0) pe_str (fun _ _ => rfl)) (pps_cons pe_str (pe_dget (hu_of hr) (pv 0) pe_str (fun _ _ => rfl)) (pps_cons pe_str (pe_dget (hu_of hr) (pv 0) pe_str (fun _ _ => rfl)) (pps_cons pe_str (pv 3) pps_nil))))) (by rfl) (by rfl) (fun z => by cases z) (by decide)))))), ?_⟩
    have hm4 := ok.m4
    have hm1 := ok.m1
    have hk3 := ok.k3
    obtain ⟨kvs, tm, tw, tk, td, hO, hl10, v1, v2, hT2, v3, hT3, v4, hT4, v5, tkvs, hTd, tnd, tln, tabs⟩ := id hB
    refine fun d hd => ?_
    have s1 := same_new (o := .dK []) hd
    refine ⟨.ref o, rfl, o, _, rfl, dget (s1 _ _ hO) v2, tm, _, rfl, .inr (SqT.of (s1 _ _ hT2)), ?_⟩
    rw [List.length_map, ok.nm.len]
    refine ⟨(m : Int), rfl, by omega, by omega, fun pl hpl => ?_⟩
    rw [show ((m : Int)).toNat = m from rfl]
    have nod : o ≠ d := ne_of_none hO hd
    refine lc_range (lo := 0) (n := m) (fun i H' => i ≤ m ∧ Same (upd H d (.dK [])) H' ∧ ∃ ns : List Nat, H' pl = some (.lst (ns.map fun (n : Nat) => V.int (n : Int))) ∧ ns.length = i ∧ ∀ n ∈ ns, n < m) ⟨Nat.zero_le _, same_new hpl, [], upd_same, rfl, fun _ h => by cases h⟩ ?_ ?_
    · rintro i H' hi ⟨_, s2, ns, g1, g2, g3⟩
      have go : ∀ n : Nat, n < m → ∃ acc, H' pl = some (.lst acc) ∧ acc.length < sizeLine ∧ i + 1 ≤ m ∧ Same (upd H d (.dK [])) (upd H' pl (.lst (acc ++ [V.int (n : Int)]))) ∧ ∃ ns : List Nat, (upd H' pl (.lst (acc ++ [V.int (n : Int)]))) pl = some (.lst (ns.map fun (n : Nat) => V.int (n : Int))) ∧ ns.length = i + 1 ∧ ∀ n ∈ ns, n < m := fun n hn => by
        refine ⟨_, g1, by rw [List.length_map]; exact small1000 (by omega), hi, fun a z hz => ?_, ns ++ [n], ?_, by rw [List.length_append, g2]; rfl, fun u hu => ?_⟩
        · rw [upd_ne (ne_of_none hz hpl)]
          exact s2 _ _ hz
        · rw [upd_same, List.map_append]
          rfl
        · rcases List.mem_append.mp hu with v | v
          · exact g3 u v
          · rw [List.mem_singleton.mp v]
            exact hn
      refine ⟨rfl, ?_⟩
      refine ⟨_, rfl, .int y, rfl, rfl, _, rfl, ite2 (fun _ => ?_) (fun _ => ?_)⟩
      · exact ⟨.int x, rfl, go x hx⟩
      · refine ⟨_, rfl, ?_⟩
        have e := go i hi
        rw [← Int.zero_add (i : Int)] at e
        exact e
    · rintro H2 ⟨_, s2, ns, g1, g2, g3⟩
      refine ⟨(by show 2 ≤ sizeLine; decide), fun t1 ht1 => ?_⟩
      have s3 := (s1.trans s2).trans (same_new (o := .tup [.ref d, .ref pl]) ht1)
      have hd3 : (upd H2 t1 (.tup [.ref d, .ref pl])) d = some (.dK []) := same_new ht1 _ _ (s2 _ _ upd_same)
      have hpl3 : (upd H2 t1 (.tup [.ref d, .ref pl])) pl = some (.lst (ns.map fun (n : Nat) => V.int (n : Int))) := same_new ht1 _ _ g1
      have npd : pl ≠ d := fun z => by
        rw [z, upd_same] at hpl
        cases hpl
      refine ⟨t1, _, rfl, SqT.of upd_same, rfl, _, _, rfl, _, _, rfl, rfl, ?_⟩
      refine ⟨.ref o, rfl, o, _, rfl, dget (s3 _ _ hO) v4, tk, rfl, ⟨_, SqT.of (s3 _ _ hT4)⟩, ?_⟩
      refine for_tup (K := K) (a := tk) (xs := ks.map V.str) (fun i σ H' => ∃ (v5 v6 v7 v8 : Option V) (tkv : List (Key × V)) (Ms' : List (List (List Int))), σ = [some (.ref o), some (.int x), some (.int y), some (.ref d), some (.ref pl), v5, v6, v7, v8] ∧ Same H H' ∧ H' pl = some (.lst (ns.map fun (n : Nat) => V.int (n : Int))) ∧
          H' d = some (.dK tkv) ∧ tkv.length ≤ i ∧ (tkv.map (·.1)).Nodup ∧ Ms'.length = i ∧ ∀ (j : Nat) (k : Str), j < i → ks[j]? = some k → ∃ (t : Addr) (M : List (List Int)), valV tkv (.inr k) = some (.ref t) ∧ Ms'[j]? = some M ∧ Tab b H' t m M)
        ⟨none, none, none, none, [], [], rfl, s3, hpl3, hd3, Nat.le_refl _, List.nodup_nil, rfl, fun j k h => absurd h (Nat.not_lt_zero _)⟩ (fun i σ H' _ ⟨_, _, _, _, _, _, _, s, _⟩ => SqT.of (s _ _ hT4)) ?_ ?_
      · rintro i u σ H' hu ⟨v5', v6, v7, v8, tkv, Ms', rfl, s, h1, h2, h3, hnd, h4, h5⟩
        obtain ⟨k, hk, rfl⟩ : ∃ k, ks[i]? = some k ∧ u = .str k := by
          rw [List.getElem?_map] at hu
          cases e : ks[i]? with
          | none =>
            rw [e] at hu
            cases hu
          | some k =>
            rw [e] at hu
            exact ⟨k, rfl, (Option.some.inj hu).symm⟩
        obtain ⟨t, M, e1, e2, e3⟩ := tabs i k hk
        have hk3 := ok.k3
        have hik : i < ks.length := (List.getElem?_eq_some_iff.mp hk).1
        refine ⟨.ref pl, rfl, pl, rfl, ⟨_, SqL.of h1⟩, fun D hD => ?_⟩
        refine lc_list (K := K) (a := pl) (xs := ns.map fun (n : Nat) => V.int (n : Int)) (fun a H2 => a ≤ m ∧ Same H' H2 ∧ ∃ (qs : List Addr) (N : List (List Int)), H2 D = some (.lst (qs.map V.ref)) ∧ qs.length = a ∧ N.length = a ∧
            (∀ (j : Nat) (q : Addr), qs[j]? = some q → q ≠ D ∧ ∃ row : List Int, N[j]? = some row ∧ H2 q = some (.tup (row.map V.int))) ∧ ∀ row ∈ N, row.length = m ∧ ∀ z ∈ row, TOk b z)
          ⟨Nat.zero_le _, same_new hD, [], [], upd_same, rfl, rfl, fun j q h => by simp at h, fun _ h => by cases h⟩ (fun a H2 _ ⟨_, s, _⟩ => SqL.of (s _ _ h1)) ?_ ?_
        · rintro a w H3 hw ⟨_, sa, qs, N, f1, f2, f3, f4, f5⟩
          have ham : a < m := by
            have := (List.getElem?_eq_some_iff.mp hw).1
            rw [List.length_map] at this
            omega
          obtain ⟨na, hna, rfl⟩ := nat_at hw
          refine ⟨rfl, ?_⟩
          refine ⟨.ref pl, rfl, pl, rfl, ⟨_, SqL.of (sa _ _ h1)⟩, fun D2 hD2 => ?_⟩
          refine lc_list (K := K) (a := pl) (xs := ns.map fun (n : Nat) => V.int (n : Int)) (fun c H4 => c ≤ m ∧ Same H3 H4 ∧ ∃ zs : List Int, H4 D2 = some (.lst (zs.map V.int)) ∧ zs.length = c ∧ ∀ z ∈ zs, TOk b z)
            ⟨Nat.zero_le _, same_new hD2, [], upd_same, rfl, fun _ h => by cases h⟩ (fun c H4 _ ⟨_, s4, _⟩ => SqL.of (s4 _ _ (sa _ _ h1))) ?_ ?_
          · rintro c w H4 hw ⟨_, s4, zs, r1, r2, r3⟩
            have hcm : c < m := by
              have := (List.getElem?_eq_some_iff.mp hw).1
              rw [List.length_map] at this
              omega
            obtain ⟨nc, hnc, rfl⟩ := nat_at hw
            have sH := ((s.trans sa).trans s4)
            obtain ⟨rs, r, row, z, y1, y2, y3, y4, y5⟩ := (e3.same sH).at (g3 na hna) (g3 nc hnc)
            refine ⟨rfl, ?_⟩
            refine ⟨.ref o, rfl, o, _, rfl, dget (sH _ _ hO) v5, .str k, rfl, td, _, rfl, dget (sH _ _ hTd) e1, ?_⟩
            refine ⟨.int na, rfl, t, _, (na : Int), _, rfl, rfl, SqT.of y1, atI_nat y2, ?_⟩
            refine ⟨.int nc, rfl, r, _, (nc : Int), _, rfl, rfl, SqT.of y3, atI_nat y4, ?_⟩
            refine ⟨_, r1, by rw [List.length_map]; exact small1000 (by omega), hcm, fun a o ho => ?_, zs ++ [z], ?_, by rw [List.length_append, r2]; rfl, fun u hu => ?_⟩
            · rw [upd_ne (ne_of_none ho hD2)]
              exact s4 _ _ ho
            · rw [upd_same, List.map_append]
              rfl
            · rcases List.mem_append.mp hu with v | v
              · exact r3 u v
              · rw [List.mem_singleton.mp v]
                exact y5
          · rintro H4 ⟨_, s4, zs, r1, r2, r3⟩
            rw [List.length_map, g2] at r2
            refine ⟨D2, _, rfl, .inl ⟨SqL.of r1, fun t2 ht2 => ?_⟩⟩
            have s5 := s4.trans (same_new (o := .tup (zs.map V.int)) ht2)
            have nDt : D ≠ t2 := ne_of_none (s4 _ _ f1) ht2
            refine ⟨_, s5 _ _ f1, by rw [List.length_map]; exact small1000 (by omega), ham, fun a o ho => ?_, qs ++ [t2], N ++ [zs], ?_, by rw [List.length_append, f2]; rfl, by rw [List.length_append, f3]; rfl, fun j q hq => ?_, fun r hr => ?_⟩
            · rw [upd_ne (ne_of_none ho hD)]
              exact s5 _ _ (sa _ _ ho)
            · rw [upd_same, List.map_append]
              rfl
            · by_cases hj : j < qs.length
              · rw [List.getElem?_append_left hj] at hq
                obtain ⟨k1, row', k2, k3⟩ := f4 j q hq
                exact ⟨k1, row', by rw [List.getElem?_append_left (by omega)]; exact k2, by rw [upd_ne k1]; exact s5 _ _ k3⟩
              · rw [List.getElem?_append_right (by omega)] at hq
                have hj0 : j - qs.length = 0 := by
                  have := (List.getElem?_eq_some_iff.mp hq).1
                  simp only [List.length_singleton] at this
                  omega
                rw [hj0] at hq
                have eq : t2 = q := Option.some.inj hq
                subst eq
                refine ⟨nDt.symm, zs, ?_, by rw [upd_ne nDt.symm, upd_same]⟩
                rw [List.getElem?_append_right (by omega), show j - N.length = 0 by omega]
                rfl
            · rcases List.mem_append.mp hr with v | v
              · exact f5 r v
              · rw [List.mem_singleton.mp v]
                exact ⟨r2, r3⟩
        · rintro H3 ⟨_, sa, qs, N, f1, f2, f3, f4, f5⟩
          rw [List.length_map, g2] at f2 f3
          refine ⟨D, _, rfl, .inl ⟨SqL.of f1, fun t2 ht2 => ?_⟩⟩
          have s6 := sa.trans (same_new (o := .tup (qs.map V.ref)) ht2)
          have hdn : (upd H3 t2 (.tup (qs.map V.ref))) d = some (.dK tkv) := s6 _ _ h2
          refine ⟨.ref d, rfl, .str k, rfl, d, _, rfl, DPut.k (k := .inr k) hdn (small1000 (by omega)), ?_⟩
          have ndH : ∀ a z, H a = some z → a ≠ d := fun a z hz => ne_of_none hz hd
          have n2d : t2 ≠ d := fun z => by
            rw [z, sa _ _ h2] at ht2
            cases ht2
          have tabN : Tab b (upd (upd H3 t2 (.tup (qs.map V.ref))) d (.dK (putK tkv (.inr k) (.ref t2)))) t2 m N := by
            refine ⟨qs, by rw [upd_ne n2d, upd_same], f2, f3, fun j r hr => ?_, f5⟩
            obtain ⟨k1, row, k2, k3⟩ := f4 j r hr
            have nrd : r ≠ d := fun z => by
              rw [z, sa _ _ h2] at k3
              cases k3
            exact ⟨row, k2, by rw [upd_ne nrd, upd_ne (ne_of_none k3 ht2)]; exact k3⟩
          refine ⟨_, _, _, _, putK tkv (.inr k) (.ref t2), Ms' ++ [N], rfl, fun a z hz => ?_, ?_, upd_same, ?_, putK_nd hnd, by rw [List.length_append, h4]; rfl, fun j k' hj hk' => ?_⟩
          · rw [upd_ne (ndH a z hz)]
            exact s6 _ _ (s _ _ hz)
          · rw [upd_ne npd]
            exact s6 _ _ h1
          · unfold putK
            split
            · rw [List.length_map]
              omega
            · rw [List.length_append]
              show tkv.length + 1 ≤ i + 1
              omega
          · by_cases hji : j < i
            · obtain ⟨t', M', k1, k2, k3⟩ := h5 j k' hji hk'
              have nkk : ¬ (Sum.inr k' : Key) = Sum.inr k := fun z => by
                have z := Sum.inr.inj z
                rw [z] at hk'
                have := (List.getElem?_inj (show j < ks.length by omega) ok.nk.nd).mp (hk'.trans hk.symm)
                omega
              refine ⟨t', M', ?_, by rw [List.getElem?_append_left (by omega)]; exact k2, ?_⟩
              · rw [valV_put, if_neg nkk]
                exact k1
              · have k4 := k3.same s6
                obtain ⟨rs, l1, l2, l3, l4, l5⟩ := k4
                have nt : t' ≠ d := fun z => by
                  rw [z, hdn] at l1
                  cases l1
                refine ⟨rs, by rw [upd_ne nt]; exact l1, l2, l3, fun j r hr => ?_, l5⟩
                obtain ⟨row, p1, p2⟩ := l4 j r hr
                have nr : r ≠ d := fun z => by
                  rw [z, hdn] at p2
                  cases p2
                exact ⟨row, p1, by rw [upd_ne nr]; exact p2⟩
            · have eji : j = i := by omega
              subst eji
              rw [hk] at hk'
              have ek := Option.some.inj hk'
              subst ek
              refine ⟨t2, N, ?_, ?_, tabN⟩
              · rw [valV_put, if_pos rfl]
              · rw [List.getElem?_append_right (by omega), show j - Ms'.length = 0 by omega]
                rfl
      · rintro σ H' ⟨v5', v6, v7, v8, tkv, Ms', rfl, s, h1, h2, h3, hnd, h4, h5⟩
        rw [List.length_map] at h3 h4 h5
        refine fun q' hq' => ?_
        have sq := same_new (o := .dK []) hq'
        have sH := s.trans sq
        refine ⟨.ref o, rfl, o, _, rfl, dget (sH _ _ hO) v1, ?_⟩
        refine ⟨.ref o, rfl, o, _, rfl, dget (sH _ _ hO) v2, ?_⟩
        refine ⟨.ref o, rfl, o, _, rfl, dget (sH _ _ hO) v3, ?_⟩
        refine ⟨.ref o, rfl, o, _, rfl, dget (sH _ _ hO) v4, ?_⟩
        refine ⟨.ref d, rfl, ?_⟩
        refine ⟨upd_same, dict5 b tm tw tk d, rfl, (by show 5 ≤ 15; decide), ?_⟩
        rw [merge0 (dict5_nd b tm tw tk d)]
        have sF : Same H (upd (upd H' q' (.dK [])) q' (.dK (dict5 b tm tw tk d))) := fun a z hz => by
          have n : a ≠ q' := ne_of_none (s _ _ hz) hq'
          rw [upd_ne n, upd_ne n]
          exact s _ _ hz
        have sF' : Same H' (upd (upd H' q' (.dK [])) q' (.dK (dict5 b tm tw tk d))) := fun a z hz => by
          have n : a ≠ q' := ne_of_none hz hq'
          rw [upd_ne n, upd_ne n]
          exact hz
        obtain ⟨w1, w2, w3, w4, w5⟩ := dict5_at b tm tw tk d
        refine q q' Ms' _ sF (s.free hq') ⟨_, tm, tw, tk, d, upd_same, (by show 5 ≤ 10; decide), w1, w2, sF _ _ hT2, w3, sF _ _ hT3, w4, sF _ _ hT4, w5, tkv, sF' _ _ h2, hnd, Nat.le_trans h3 (Nat.le_trans hk3 (by decide)), fun i k hk => ?_⟩ ⟨ok.b0, ok.b1, ok.b97, ok.m1, ok.m4, ok.nm, ok.wl, ok.w, ok.nk, ok.k1, ok.k3, h4⟩
        obtain ⟨t, M, a1, a2, a3⟩ := h5 i k (List.getElem?_eq_some_iff.mp hk).1 hk
        exact ⟨t, M, a1, a2, a3.same sF'⟩
end
end OG
set_option Elab.async false
set_option linter.all false
set_option maxRecDepth 100000
set_option maxHeartbeats 8000000
namespace OG
open PySem PySem.Spec PyProof.Rows L2
theorem paired_of {α β : Type} {R : α → β → Prop} : ∀ {xs : List α} {ys : List β}, xs.length = ys.length → (∀ (j : Nat) x y, xs[j]? = some x → ys[j]? = some y → R x y) → Paired R xs ys
  | [], [], _, _ => .nil
  | [], _ :: _, h, _ => by simp at h
  | _ :: _, [], h, _ => by simp at h
  | x :: xs, y :: ys, h, f => .cons (f 0 x y rfl rfl) (paired_of (by simpa using h) fun j a b h1 h2 => f (j + 1) a b (by simpa using h1) (by simpa using h2))
theorem valV_of : ∀ {kvs : List (Key × V)}, (kvs.map (·.1)).Nodup → ∀ {j : Nat} {k : Key} {v : V}, kvs[j]? = some (k, v) → valV kvs k = some v
  | [], _, j, k, v, h => by simp at h
  | p :: r, n, 0, k, v, h => by
    have e : p = (k, v) := Option.some.inj h
    rw [e]
    exact valV_pos rfl
  | p :: r, n, j + 1, k, v, h => by
    rw [List.map_cons, List.nodup_cons] at n
    have h : r[j]? = some (k, v) := h
    have ne : ¬ p.1 = k := fun z => n.1 (by
      rw [z]
      exact List.mem_map_of_mem (f := fun q : Key × V => q.1) (List.mem_of_getElem? h))
    rw [valV_neg ne]
    exact valV_of n.2 h
def dict3 (b : Int) (tm tw : Addr) : List (Key × V) := [(.inr "by", .int b), (.inr "marks", .ref tm), (.inr "weights", .ref tw)]
def dict4 (b : Int) (tm tw tk : Addr) : List (Key × V) := [(.inr "by", .int b), (.inr "marks", .ref tm), (.inr "weights", .ref tw), (.inr "kinds", .ref tk)]
theorem dict3_nd (b : Int) (tm tw : Addr) : ((dict3 b tm tw).map (·.1)).Nodup := by
  show ([.inr "by", .inr "marks", .inr "weights"] : List Key).Nodup
  decide +kernel
theorem put3 (b : Int) (tm tw tk : Addr) : putK (dict3 b tm tw) (.inr "kinds") (.ref tk) = dict4 b tm tw tk := by
  refine (putK_new _ ?_).trans rfl
  unfold dict3
  rw [valV_neg (k_ne (by decide +kernel)), valV_neg (k_ne (by decide +kernel)), valV_neg (k_ne (by decide +kernel))]
  rfl
theorem put4 (b : Int) (tm tw tk td : Addr) : putK (dict4 b tm tw tk) (.inr "tables") (.ref td) = dict5 b tm tw tk td := by
  refine (putK_new _ ?_).trans rfl
  unfold dict4
  rw [valV_neg (k_ne (by decide +kernel)), valV_neg (k_ne (by decide +kernel)), valV_neg (k_ne (by decide +kernel)), valV_neg (k_ne (by decide +kernel))]
  rfl
theorem Tab.upd {b : Int} {H : Hp} {t D : Addr} {m : Nat} {M : List (List Int)} {o : HO} (h : Tab b H t m M) (hn : ∀ xs, H D ≠ some (.tup xs)) : Tab b (upd H D o) t m M := by
  obtain ⟨rs, h1, h2, h3, h4, h5⟩ := h
  have n : ∀ {a : Addr} {xs : List V}, H a = some (.tup xs) → a ≠ D := fun {a xs} e z => hn xs (by rw [← z]; exact e)
  refine ⟨rs, by rw [upd_ne (n h1)]; exact h1, h2, h3, fun i r hr => ?_, h5⟩
  obtain ⟨row, e1, e2⟩ := h4 i r hr
  exact ⟨row, e1, by rw [upd_ne (n e2)]; exact e2⟩
section
variable {P : Program} {w : World} {K : PySem.W.Frag} {mg : Str → Option Value} {base : Heap}
def spBof : Sp := fun vs H Q _ => ∃ (p kk : Addr) (b : Int) (m k : Nat) (ab : Bool) (ks : List Str), vs = [.ref p, .int b, .int (m : Int), .ref kk, .bl ab] ∧ Pot (k + 500) H p ∧ 0 ≤ b ∧ b ≠ 1 ∧ b ≤ 97 ∧ 1 ≤ m ∧ m ≤ 4 ∧ H kk = some (.tup (ks.map V.str)) ∧ Nms ks ks.length ∧ 1 ≤ ks.length ∧ ks.length ≤ 3 ∧
  ∀ (q : Addr) (ms : List Str) (ws : List Int) (Ms : List (List (List Int))) (H' : Hp), Dr p k H H' → H q = none → q ≠ p → BookAt H' q b m ms ws ks Ms → BkOk b m ms ws ks Ms → Q (.ref q) H'
theorem ok_l_book_of (T : Txt K mg) : FnOk P w K mg base CX0 4 T.f_l_book_of T.fd_l_book_of ["pot", "by", "many", "kinds", "is_above"] (spBof) := by
  refine T.F_l_book_of.ok sc_l_book_of (fun vs H Q E h => ?_) (fun cdv A outer s H vs Q E hr h => ?_)
  · obtain ⟨p, kk, b, m, k, ab, ks, rfl, _⟩ := h
    rfl
  · obtain ⟨p, kk, b, m, k, ab, ks, rfl, hP, b0, b1, b97, m1, m4, hkk, hks, k1, k3, q⟩ := h
    refine ⟨_, (pss_cons (ps_set (i := 5) sc_l_book_of.nd rfl (Or.inl rfl) (pe_disp (pps_cons pe_str (pv 1) (pps_cons pe_str (pe_call (ok_l_book_names T) (hr.mono (by decide)) (by rfl) T.g_l_book_names T.F_l_book_names.kp T.b_l_book_names .nil pass0 (pa_cons (pv 0) (pa_cons (pv 2) pa_nil))) (pps_cons pe_str (pe_call (ok_l_book_weights T) (hr.mono (by decide)) (by rfl) T.g_l_book_weights T.F_l_book_weights.kp T.b_l_book_weights .nil pass0 (pa_cons (pv 0) (pa_cons (pv 1) (pa_cons (pv 2) (pa_cons (pv 4) pa_nil))))) pps_nil))) (by rfl) (by rfl) (fun z => by cases z) (by decide)))
  (pss_cons (ps_dput (hu_of hr) (pv 5) pe_str (pe_callTy call_tuple_of (by rfl) T.n_tuple (by decide +kernel) (pa_cons (pv 3) pa_nil)) rfl)
  (pss_cons (ps_dput (hu_of hr) (pv 5) pe_str (pe_callTy (call_dictP rfl) (by rfl) T.n_dict (by decide +kernel) (pa_cons (pe_lc (own := [("kind", 8)]) (g := gName 8) (by rfl) sc_l_book_of.nd (pi_tup (pv 3)) (blkOk_by (own := [("kind", 8)]) (by rfl)) (fun _ _ _ _ _ => (pg_name (i := 8) sc_l_book_of.nd rfl (Or.inl rfl))) (fun _ _ _ _ _ => pts_nil) (fun _ _ _ _ _ => (pe_tup (pa_cons (pv 8) (pa_cons (pe_call (ok_l_book_table T) (hr.mono (by decide)) (by rfl) T.g_l_book_table T.F_l_book_table.kp T.b_l_book_table .nil pass0 (pa_cons (pv 0) (pa_cons (pv 1) (pa_cons (pv 2) pa_nil)))) pa_nil))))) pa_nil)) rfl)
  (pss_cons (ps_if (PW.pt (pw_and (pt_cmpR op_gt (pv 2) pe_int (nomark _)) (pw_and1 (pt_cmpR op_eq (pe_call (ok_l_take T) (hr.mono (by decide)) (by rfl) T.g_l_take T.F_l_take.kp T.b_l_take .nil pass0 (pa_cons (pv 0) (pa_cons pe_int pa_nil))) pe_int (nomark _))))) (pss_cons (ps_asg (pe_call (ok_l_some T) (hr.mono (by decide)) (by rfl) T.g_l_some T.F_l_some.kp T.b_l_some .nil pass0 (pa_cons (pv 0) (pa_cons (pe_listRg (by rfl) (by rfl) T.n_list (prg_1 (by rfl) T.n_range (pv 2))) (pa_cons pe_int pa_nil)))) (pg_lst (by rfl) (pgs_cons (pg_name (i := 6) sc_l_book_of.nd rfl (Or.inl rfl)) (pgs_cons (pg_name (i := 7) sc_l_book_of.nd rfl (Or.inl rfl)) pgs_nil))))
  (pss_one (ps_set (i := 5) sc_l_book_of.nd rfl (Or.inl rfl) (pe_call (ok_l_book_twinned T) (hr.mono (by decide)) (by rfl) T.g_l_book_twinned T.F_l_book_twinned.kp T.b_l_book_twinned .nil pass0 (pa_cons (pv 5) (pa_cons (pv 6) (pa_cons (pv 7) pa_nil))))))) pss_nil)
  (pss_one (ps_ret (pv 5))))))), ?_⟩
    refine fun q0 hq0 => ?_
    have nq0p : q0 ≠ p := hP.ne hq0
    have d0 : Dr p (k + 500) H (upd H q0 (.dK [])) := (Dr.start hP (Nat.le_refl _)).new hq0
    refine ⟨.int b, rfl, .ref p, rfl, .int m, rfl, p, m, k + 400, rfl, d0.2.mono (by omega), by omega, fun tm ms H1 hms d1 n1 ntm h1 => ?_⟩
    refine ⟨.ref p, rfl, .int b, rfl, .int m, rfl, .bl ab, rfl, p, b, m, k + 380, ab, rfl, d1.2.mono (by omega), by omega, m1, b0, b1, b97, fun tw ws H2 hwl hws d2 n2 ntw h2 => ?_⟩
    have d02 := (d0.trans d1).trans d2
    have hq2 : H2 q0 = some (.dK []) := d2.st nq0p (d1.st nq0p upd_same)
    refine ⟨hq2, dict3 b tm tw, rfl, (by show 3 ≤ 15; decide), ?_⟩
    rw [merge0 (dict3_nd b tm tw)]
    have d3 := d02.mut (o := .dK (dict3 b tm tw)) hq0 nq0p
    have hkk3 : (upd H2 q0 (.dK (dict3 b tm tw))) kk = some (.tup (ks.map V.str)) := d3.st (hP.neT hkk) hkk
    refine ⟨.ref kk, rfl, kk, _, rfl, .inr ⟨SqT.of hkk3, ?_⟩⟩
    refine ⟨.ref q0, rfl, q0, _, rfl, DPut.k (k := .inr "kinds") upd_same (by show 3 < sizeLine; decide), ?_⟩
    rw [put3]
    generalize hH4 : upd (upd H2 q0 (.dK (dict3 b tm tw))) q0 (.dK (dict4 b tm tw kk)) = H4
    have d4 : Dr p (k + 380) H H4 := by
      rw [← hH4]
      exact d3.mut hq0 nq0p
    have hq4 : H4 q0 = some (.dK (dict4 b tm tw kk)) := by
      rw [← hH4]
      exact upd_same
    have htm4 : H4 tm = some (.tup (ms.map V.str)) := by
      have e := d2.st ntm h1
      rw [← hH4, upd_ne (ne_of e hq2 (by intro z; cases z)), upd_ne (ne_of e hq2 (by intro z; cases z))]
      exact e
    have htw4 : H4 tw = some (.tup (ws.map V.int)) := by
      rw [← hH4, upd_ne (ne_of h2 hq2 (by intro z; cases z)), upd_ne (ne_of h2 hq2 (by intro z; cases z))]
      exact h2
    have hkk4 : H4 kk = some (.tup (ks.map V.str)) := d4.st (hP.neT hkk) hkk
    refine ⟨.ref kk, rfl, kk, rfl, ⟨_, SqT.of hkk4⟩, fun D hD => ?_⟩
    have nDp : D ≠ p := d4.2.ne hD
    refine lc_tup (K := K) (a := kk) (xs := ks.map V.str) (fun i H5 => i ≤ ks.length ∧ Dr p (k + 380 - 60 * i) H4 H5 ∧ ∃ (ps ts : List Addr) (Ms : List (List (List Int))), H5 D = some (.lst (ps.map V.ref)) ∧ ps.length = i ∧ ts.length = i ∧ Ms.length = i ∧
        ∀ (j : Nat) (a t : Addr) (kd : Str), ps[j]? = some a → ts[j]? = some t → ks[j]? = some kd → a ≠ p ∧ H5 a = some (.tup [.str kd, .ref t]) ∧ ∃ M, Ms[j]? = some M ∧ Tab b H5 t m M)
      ⟨Nat.zero_le _, (Dr.start d4.2 (Nat.le_refl _)).new hD, [], [], [], upd_same, rfl, rfl, rfl, fun j a t kd h => by simp at h⟩ (fun i H5 _ ⟨_, d5, _⟩ => SqT.of (d5.st (hP.neT hkk) hkk4)) ?_ ?_
    · rintro i x H5 hx ⟨_, d5, ps, ts, Ms, g1, g2, g3, g4, g5⟩
      obtain ⟨kd, hkd, rfl⟩ : ∃ kd, ks[i]? = some kd ∧ x = .str kd := by
        rw [List.getElem?_map] at hx
        cases e : ks[i]? with
        | none =>
          rw [e] at hx
          cases hx
        | some kd =>
          rw [e] at hx
          exact ⟨kd, rfl, (Option.some.inj hx).symm⟩
      have hik : i < ks.length := (List.getElem?_eq_some_iff.mp hkd).1
      refine ⟨rfl, ?_⟩
      refine ⟨_, rfl, .ref p, rfl, .int b, rfl, .int m, rfl, p, b, m, k + 380 - 60 * (i + 1), rfl, d5.2.mono (by omega), m4, m1, b0, b1, b97, fun t M H6 hM d6 nt ntp => ?_⟩
      refine ⟨(by show 2 ≤ sizeLine; decide), fun tt htt => ?_⟩
      have d7 := d6.new (o := .tup [.str kd, .ref t]) htt
      have hD6 : H6 D = some (.lst (ps.map V.ref)) := d6.st nDp g1
      have hD7 : (upd H6 tt (.tup [.str kd, .ref t])) D = some (.lst (ps.map V.ref)) := d7.st nDp g1
      have nttD : tt ≠ D := fun z => by
        rw [z, hD6] at htt
        cases htt
      refine ⟨_, hD7, by rw [List.length_map]; exact small1000 (by omega), hik, (d5.trans d7).mut hD nDp, ps ++ [tt], ts ++ [t], Ms ++ [M], ?_, by rw [List.length_append, g2]; rfl, by rw [List.length_append, g3]; rfl, by rw [List.length_append, g4]; rfl, fun j a t' kd' ha ht' hk' => ?_⟩
      · rw [upd_same, List.map_append]
        rfl
      · by_cases hj : j < i
        · rw [List.getElem?_append_left (by omega)] at ha ht'
          obtain ⟨u1, u2, M', u3, u4⟩ := g5 j a t' kd' ha ht' hk'
          have nat : ∀ xs, (upd H6 tt (.tup [.str kd, .ref t])) D ≠ some (.tup xs) := fun xs z => by
            rw [hD7] at z
            cases z
          refine ⟨u1, ?_, M', by rw [List.getElem?_append_left (by omega)]; exact u3, (u4.dr d5.2 d7).upd nat⟩
          have e := d7.st u1 u2
          rw [upd_ne (ne_of e hD7 (by intro z; cases z))]
          exact e
        · have hjl : j < (ps ++ [tt]).length := (List.getElem?_eq_some_iff.mp ha).1
          rw [List.length_append, List.length_singleton] at hjl
          have hji : j = i := by omega
          subst hji
          rw [List.getElem?_append_right (by omega), show j - ps.length = 0 by omega] at ha
          rw [List.getElem?_append_right (by omega), show j - ts.length = 0 by omega] at ht'
          have ea : tt = a := Option.some.inj ha
          have et : t = t' := Option.some.inj ht'
          rw [hkd] at hk'
          have ek : kd = kd' := Option.some.inj hk'
          subst ea et ek
          refine ⟨d6.2.ne htt, by rw [upd_ne nttD, upd_same], M, ?_, ?_⟩
          · rw [List.getElem?_append_right (by omega), show j - Ms.length = 0 by omega]
            rfl
          · refine (hM.same (same_new htt)).upd fun xs z => ?_
            rw [hD7] at z
            cases z
    · rintro H5 ⟨_, d5, ps, ts, Ms, g1, g2, g3, g4, g5⟩
      rw [List.length_map] at g2 g3 g4 d5
      have hkv : ∀ (j : Nat) (t : Addr) (kd : Str), ts[j]? = some t → ks[j]? = some kd → ((ks.zip ts).map fun q => ((.inr q.1 : Key), V.ref q.2))[j]? = some (.inr kd, .ref t) := fun j t kd h1 h2 => by
        rw [List.getElem?_map, List.getElem?_zip_eq_some (z := (kd, t)) |>.mpr ⟨h2, h1⟩]
        rfl
      have hkeys : ((ks.zip ts).map fun q => ((.inr q.1 : Key), V.ref q.2)).map (·.1) = ks.map (fun z => (.inr z : Key)) := by
        rw [List.map_map]
        have e : ((fun x : Key × V => x.1) ∘ fun q : Str × Addr => ((.inr q.1 : Key), V.ref q.2)) = (fun z : Str => (.inr z : Key)) ∘ (fun q : Str × Addr => q.1) := rfl
        rw [e, ← List.map_map, List.map_fst_zip (by omega)]
      have hnd : (((ks.zip ts).map fun q => ((.inr q.1 : Key), V.ref q.2)).map (·.1)).Nodup := by
        rw [hkeys]
        have n := hks.nd
        unfold List.Nodup at n ⊢
        rw [List.pairwise_map]
        exact n.imp fun h e => h (Sum.inr.inj e)
      have hln : ((ks.zip ts).map fun q => ((.inr q.1 : Key), V.ref q.2)).length ≤ 10 := by
        rw [List.length_map, List.length_zip]
        omega
      refine ⟨D, ps, (ks.zip ts).map fun q => ((.inr q.1 : Key), V.ref q.2), rfl, SqL.of g1, paired_of ?_ fun j a kv ha hkv' => ?_, fun dd hdd => ?_⟩
      · rw [List.length_map, List.length_zip]
        omega
      · rw [List.getElem?_map] at hkv'
        cases e : (ks.zip ts)[j]? with
        | none =>
          rw [e] at hkv'
          cases hkv'
        | some kt =>
          rw [e] at hkv'
          have ekv := Option.some.inj hkv'
          obtain ⟨z1, z2⟩ := List.getElem?_zip_eq_some.mp e
          obtain ⟨u1, u2, _⟩ := g5 j a kt.2 kt.1 ha z2 z1
          rw [← ekv]
          exact SqT.of u2
      · rw [merge0 hnd]
        generalize hkvs : ((ks.zip ts).map fun q => ((.inr q.1 : Key), V.ref q.2)) = tkv at *
        have sdd := same_new (o := .dK tkv) hdd
        have d6 := d5.new (o := .dK tkv) hdd
        have hq6 : (upd H5 dd (.dK tkv)) q0 = some (.dK (dict4 b tm tw kk)) := d6.st nq0p hq4
        refine ⟨.ref q0, rfl, q0, _, rfl, DPut.k (k := .inr "tables") hq6 (by show 4 < sizeLine; decide), ?_⟩
        rw [put4]
        generalize hH7 : upd (upd H5 dd (.dK tkv)) q0 (.dK (dict5 b tm tw kk dd)) = H7
        have d7 : Dr p (k + 200) H H7 := by
          rw [← hH7]
          exact ((d4.trans d6).mut hq0 nq0p).mono (by omega)
        have nup : ∀ xs, (upd H5 dd (.dK tkv)) q0 ≠ some (.tup xs) := fun xs z => by
          rw [hq6] at z
          cases z
        have keep : ∀ (a : Addr) (xs : List V), (upd H5 dd (.dK tkv)) a = some (.tup xs) → H7 a = some (.tup xs) := fun a xs e => by
          rw [← hH7, upd_ne (ne_of e hq6 (by intro z; cases z))]
          exact e
        have nddq : dd ≠ q0 := fun z => by
          rw [z, d5.st nq0p hq4] at hdd
          cases hdd
        obtain ⟨w1, w2, w3, w4, w5⟩ := dict5_at b tm tw kk dd
        have ok : BkOk b m ms ws ks Ms := ⟨b0, b1, b97, m1, m4, hms, hwl, hws, hks, k1, k3, g4⟩
        have bk : BookAt H7 q0 b m ms ws ks Ms := by
          refine ⟨dict5 b tm tw kk dd, tm, tw, kk, dd, by rw [← hH7]; exact upd_same, (by show 5 ≤ 10; decide), w1, w2, keep _ _ (d6.st ntm htm4), w3, keep _ _ (d6.st ntw htw4), w4, keep _ _ (d6.st (hP.neT hkk) hkk4), w5, tkv, ?_, hnd, hln, fun i kd hk => ?_⟩
          · rw [← hH7, upd_ne nddq, upd_same]
          · have hi : i < ks.length := (List.getElem?_eq_some_iff.mp hk).1
            have ht : ts[i]? = some (ts[i]'(by omega)) := List.getElem?_eq_getElem (by omega)
            have hp : ps[i]? = some (ps[i]'(by omega)) := List.getElem?_eq_getElem (by omega)
            obtain ⟨u1, u2, M, u3, u4⟩ := g5 i _ _ kd hp ht hk
            refine ⟨_, M, valV_of hnd (hkv i _ kd ht hk), u3, ?_⟩
            rw [← hH7]
            exact (u4.same sdd).upd nup
        have fin : ∀ (q' : Addr) (Ms' : List (List (List Int))) (H8 : Hp), Dr p k H H8 → H q' = none → q' ≠ p → BookAt H8 q' b m ms ws ks Ms' → BkOk b m ms ws ks Ms' → Q (.ref q') H8 := fun q' Ms' H8 => q q' ms ws Ms' H8
        have done : ∀ H8, Dr p k H7 H8 → Q (.ref q0) H8 := fun H8 d8 => fin q0 Ms H8 (d7.trans d8) hq0 nq0p (bk.dr d7.2 d8) ok
        refine ⟨.int m, rfl, _, _, rfl, rfl, _, rfl, ite2 (fun hm => ?_) (fun _ => ?_)⟩
        · have hm : 1 < (m : Int) := of_decide_eq_true hm
          refine ⟨.ref p, rfl, p, 4, k + 100, rfl, d7.2.mono (by omega), by decide, by decide, fun r H8 r0 r1 d8 => ?_⟩
          refine ⟨rfl, _, rfl, ite2 (fun _ => ?_) (fun _ => ?_)⟩
          · refine ⟨.ref p, rfl, .int m, rfl, m, rfl, RgOk.of_le (by decide) (by omega) (by decide) (by omega), fun lr hlr => ?_⟩
            have d9 := d8.new (o := .lst (plV m)) hlr
            refine ⟨p, lr, plV m, 2, k + 50, rfl, d9.2.mono (by omega), SqL.of upd_same, d8.2.ne hlr, by rw [plV_len]; omega, by rw [plV_len]; omega, fun q2 ys zs H10 yl pm d10 nq2 nq2p hq2 => ?_⟩
            obtain ⟨y1, y2, rfl⟩ : ∃ y1 y2, ys = [y1, y2] := by
              match ys, yl with
              | [y1, y2], _ => exact ⟨y1, y2, rfl⟩
            have iny : ∀ y, y ∈ [y1, y2] → ∃ n : Nat, n < m ∧ y = .int (n : Int) := fun y hy => by
              obtain ⟨i, hi⟩ := List.getElem?_of_mem (pm.mem_iff.mp (List.mem_append_left _ hy))
              obtain ⟨z1, z2⟩ := plV_at hi
              exact ⟨i, z1, z2⟩
            obtain ⟨n1', hn1, rfl⟩ := iny y1 (by simp)
            obtain ⟨n2', hn2, rfl⟩ := iny y2 (by simp)
            refine ⟨q2, _, rfl, SqL.of hq2, rfl, _, _, rfl, _, _, rfl, rfl, ?_⟩
            have d710 := d9.trans d10
            have bk10 : BookAt H10 q0 b m ms ws ks Ms := bk.dr d7.2 d710
            refine ⟨.ref q0, rfl, .int n1', rfl, .int n2', rfl, q0, n1', n2', b, m, ms, ks, ws, Ms, rfl, bk10, ok, hn1, fun q3 Ms' H11 s11 nq3 bk11 ok11 => ?_⟩
            have d11 : Dr p k H H11 := Dr.mono ⟨(d7.trans d710).1.trans (Same.kp s11), d710.2.same s11⟩ (by omega)
            exact ⟨_, rfl, fin q3 Ms' H11 d11 ((d7.trans d710).fr nq3) (d710.2.ne nq3) bk11 ok11⟩
          · exact ⟨_, rfl, done H8 (d8.mono (by omega))⟩
        · exact ⟨_, rfl, done H7 (Dr.start d7.2 (by omega))⟩
end
end OG
set_option Elab.async false
set_option linter.all false
set_option maxRecDepth 100000
set_option maxHeartbeats 8000000
namespace OG
open PySem PySem.Spec PyProof.Rows L2
open RZ (ItzT pi_zipA iZipA)
theorem lc_zipT {K : PySem.W.Frag} {a b : Addr} {xs ys : List V} {g : TG} {tt : TT} {te : TE} {vs : List Nat} {σ : L2.St} {H1 : Hp} {D : Addr} {Qd : Hp → Prop} (Pv : Nat → Hp → Prop) (h0 : Pv 0 (upd H1 D (.lst []))) (hq : ∀ i H, Pv i H → SqT K H a xs ∧ SqT K H b ys)
    (hs : ∀ (i : Nat) (x y : V) (T : Addr) (H : Hp), xs[i]? = some x → ys[i]? = some y → Pv i H → H T = none → g (.ref T) (wipe σ vs) (upd H T (.tup [x, y])) fun σ2 H2 => wipe σ2 vs = wipe σ vs ∧ tt σ2 H2 fun b H3 =>
      if b = true then te σ2 H3 fun y H4 => ∃ acc, H4 D = some (.lst acc) ∧ acc.length < sizeLine ∧ Pv (i + 1) (upd H4 D (.lst (acc ++ [y]))) else Pv (i + 1) H3) (hd : ∀ H, Pv (min xs.length ys.length) H → Qd H) :
    ∃ W : Nat → Nat → Hp → Prop, (∃ m, W 0 m (upd H1 D (.lst []))) ∧ ∀ i m H, W i m H →
      ((ItzT K a b).stop i H ∧ Qd H) ∨ ((ItzT K a b).go i H ∧ ∃ Nx : Hp → Prop, (∀ H', Nx H' → ∃ m', m' < m ∧ W (i + 1) m' H') ∧ ∀ x H', (ItzT K a b).yld i H x H' → g x (wipe σ vs) H' fun σ2 H2 => wipe σ2 vs = wipe σ vs ∧ tt σ2 H2 fun b H3 =>
        if b = true then te σ2 H3 fun y H4 => ∃ acc, H4 D = some (.lst acc) ∧ acc.length < sizeLine ∧ Nx (upd H4 D (.lst (acc ++ [y]))) else Nx H3) := by
  refine ⟨fun i m H => m = min xs.length ys.length - i ∧ i ≤ min xs.length ys.length ∧ Pv i H, ⟨_, rfl, Nat.zero_le _, h0⟩, ?_⟩
  rintro i m H ⟨rfl, hi, p⟩
  obtain ⟨qx, qy⟩ := hq i H p
  by_cases hlt : i < min xs.length ys.length
  · have h1 : i < xs.length := by omega
    have h2 : i < ys.length := by omega
    refine .inr ⟨⟨xs, ys, xs[i], ys[i], qx, qy, List.getElem?_eq_getElem h1, List.getElem?_eq_getElem h2⟩, Pv (i + 1), fun H' p' => ⟨min xs.length ys.length - (i + 1), by omega, rfl, hlt, p'⟩, fun v H' hy => ?_⟩
    obtain ⟨T, x, y, rfl, nT, rfl, f1, f2⟩ := hy
    exact hs i x y T H (f1 xs qx) (f2 ys qy) p nT
  · have e : i = min xs.length ys.length := by omega
    subst e
    refine .inl ⟨⟨xs, ys, qx, qy, by omega⟩, hd H p⟩
theorem Dr.sm {p : Addr} {k : Nat} {H H1 H2 : Hp} (d : Dr p k H H1) (s : Same H1 H2) : Dr p k H H2 := ⟨d.1.trans (Same.kp s), d.2.same s⟩
theorem put_len {kvs : List (Key × V)} {k : Key} {v x : V} (h : valV kvs k = some x) : (putK kvs k v).length = kvs.length := by
  have e : (kvs.any fun kv => decide (kv.1 = k)) = true := by
    rw [valV_any, h]
    rfl
  unfold putK
  rw [if_pos e, List.length_map]
theorem Nms.take {ms : List Str} {m n : Nat} (h : Nms ms m) (hn : n ≤ m) : Nms (ms.take n) n := by
  refine ⟨by rw [List.length_take, h.len]; omega, h.nd.sublist (List.take_sublist _ _), fun z hz => h.is z (List.mem_of_mem_take hz)⟩
section
variable {P : Program} {w : World} {K : PySem.W.Frag} {mg : Str → Option Value} {base : Heap}
def spDrawn (K : PySem.W.Frag) : Sp := fun vs H Q _ => ∃ (p lb lm : Addr) (bs ms0 : List Int) (kn : Int) (k : Nat) (ab : Bool), vs = [.ref p, .ref lb, .ref lm, .int kn, .bl ab] ∧ Pot (k + 800) H p ∧ SqL K H lb (bs.map V.int) ∧ lb ≠ p ∧ 0 < bs.length ∧ bs.length < 1000 ∧ (∀ b ∈ bs, 0 ≤ b ∧ b ≠ 1 ∧ b ≤ 97) ∧
  SqL K H lm (ms0.map V.int) ∧ lm ≠ p ∧ 0 < ms0.length ∧ ms0.length < 1000 ∧ (∀ b ∈ ms0, 1 ≤ b ∧ b ≤ 4) ∧ 1 ≤ kn ∧ kn ≤ 3 ∧
  ∀ (q : Addr) (b : Int) (m : Nat) (ms ks : List Str) (ws : List Int) (Ms : List (List (List Int))) (H' : Hp), b ∈ bs → (m : Int) ∈ ms0 → Dr p k H H' → H q = none → q ≠ p → BookAt H' q b m ms ws ks Ms → BkOk b m ms ws ks Ms → Q (.ref q) H'
theorem str_at {xs : List Str} {i : Nat} {x : V} (h : (xs.map V.str)[i]? = some x) : ∃ z, xs[i]? = some z ∧ x = .str z := by
  rw [List.getElem?_map] at h
  cases e : xs[i]? with
  | none =>
    rw [e] at h
    cases h
  | some z =>
    rw [e] at h
    exact ⟨z, rfl, (Option.some.inj h).symm⟩
theorem ok_l_book_drawn (T : Txt K mg) : FnOk P w K mg base CX0 5 T.f_l_book_drawn T.fd_l_book_drawn ["pot", "bys", "manys", "kinds", "is_above"] (spDrawn K) := by
  refine T.F_l_book_drawn.ok sc_l_book_drawn (fun vs H Q E h => ?_) (fun cdv A outer s H vs Q E hr h => ?_)
  · obtain ⟨p, lb, lm, bs, ms0, kn, k, ab, rfl, _⟩ := h
    rfl
  · obtain ⟨p, lb, lm, bs, ms0, kn, k, ab, rfl, hP, hB, nbp, bl0, bl1, bok, hM, nmp, ml0, ml1, mok, kn1, kn3, q⟩ := h
    refine ⟨_, (pss_cons (ps_par (i := 5) (j := 6) (by rfl) sc_l_book_drawn.nd rfl rfl (by decide) rfl rfl (pa_cons (pe_call (ok_l_of T) (hr.mono (by decide)) (by rfl) T.g_l_of T.F_l_of.kp T.b_l_of .nil pass0 (pa_cons (pv 0) (pa_cons (pv 1) pa_nil))) (pa_cons (pe_call (ok_l_of T) (hr.mono (by decide)) (by rfl) T.g_l_of T.F_l_of.kp T.b_l_of .nil pass0 (pa_cons (pv 0) (pa_cons (pv 2) pa_nil))) pa_nil)) (by rfl))
  (pss_cons (ps_set (i := 7) sc_l_book_drawn.nd rfl (Or.inl rfl) (pe_call (ok_l_book_names T) (hr.mono (by decide)) (by rfl) T.g_l_book_names T.F_l_book_names.kp T.b_l_book_names .nil pass0 (pa_cons (pv 0) (pa_cons (pe_op op_add pe_int (pe_call (ok_l_take T) (hr.mono (by decide)) (by rfl) T.g_l_take T.F_l_take.kp T.b_l_take .nil pass0 (pa_cons (pv 0) (pa_cons (pv 3) pa_nil)))) pa_nil))))
  (pss_cons (ps_set (i := 8) sc_l_book_drawn.nd rfl (Or.inr rfl) (pe_call (ok_l_book_of T) (hr.mono (by decide)) (by rfl) T.g_l_book_of T.F_l_book_of.kp T.b_l_book_of .nil pass0 (pa_cons (pv 0) (pa_cons (pv 5) (pa_cons (pv 6) (pa_cons (pv 7) (pa_cons (pv 4) pa_nil)))))))
  (pss_cons (ps_if (PW.pt (pw_and (pt_cmpR op_le (pe_callB call_len_seq (by rfl) T.n_len PySem.boot_len (pa_cons (pv 7) pa_nil)) (pv 6) (nomark _)) (pw_and1 (pt_cmpR op_eq (pe_call (ok_l_take T) (hr.mono (by decide)) (by rfl) T.g_l_take T.F_l_take.kp T.b_l_take .nil pass0 (pa_cons (pv 0) (pa_cons pe_int pa_nil))) pe_int (nomark _))))) (pss_cons (ps_set (i := 9) sc_l_book_drawn.nd rfl (Or.inl rfl) (pe_callTy (call_dictP rfl) (by rfl) T.n_dict (by decide +kernel) (pa_cons (pe_lc (own := [("mark", 10), ("kind", 11)]) (by rfl) sc_l_book_drawn.nd (RZ.pi_zipA (by rfl) T.n_zip (pa_cons (pe_dget (hu_of hr) (pv 8) pe_str (fun _ _ => rfl)) (pa_cons (pv 7) pa_nil))) (blkOk_by (own := [("mark", 10), ("kind", 11)]) (by rfl)) (fun _ _ _ _ _ => (pg_tupK K (n := 2) (by rfl) (pgs_cons (pg_name (i := 10) sc_l_book_drawn.nd rfl (Or.inl rfl)) (pgs_cons (pg_name (i := 11) sc_l_book_drawn.nd rfl (Or.inl rfl)) pgs_nil)))) (fun _ _ _ _ _ => pts_nil) (fun _ _ _ _ _ => (pe_tup (pa_cons (pv 10) (pa_cons (pe_dget (hu_of hr) (pe_dget (hu_of hr) (pv 8) pe_str (fun _ _ => rfl)) (pv 11) (fun _ _ => rfl)) pa_nil))))) pa_nil)))
  (pss_one (ps_asg (pe_tup (pa_cons (pe_slice sl_tupA (pe_dget (hu_of hr) (pv 8) pe_str (fun _ _ => rfl)) po_none (po_some (pe_callB call_len_seq (by rfl) T.n_len PySem.boot_len (pa_cons (pv 7) pa_nil)))) (pa_cons (pv 9) pa_nil))) (pg_tup (by rfl) (pgs_cons (pg_sub (pv 8) pe_str (set_dict (hu_of hr))) (pgs_cons (pg_sub (pv 8) pe_str (set_dict (hu_of hr))) pgs_nil)))))) pss_nil)
  (pss_one (ps_ret (pv 8))))))), ?_⟩
    refine ⟨.ref p, rfl, .ref lb, rfl, p, lb, _, k + 799, rfl, hP, hB, nbp, by rw [List.length_map]; exact bl0, by rw [List.length_map]; omega, fun i x H1 hx d1 => ?_⟩
    obtain ⟨b, hb, rfl⟩ := at_of hx
    refine ⟨.ref p, rfl, .ref lm, rfl, p, lm, _, k + 798, rfl, d1.2, d1.1.seq nmp hM, nmp, by rw [List.length_map]; exact ml0, by rw [List.length_map]; omega, fun i2 x2 H2 hx2 d2 => ?_⟩
    obtain ⟨mi, hmi, rfl⟩ := at_of hx2
    obtain ⟨b0, b1, b97⟩ := bok b hb
    obtain ⟨mi1, mi4⟩ := mok mi hmi
    obtain ⟨m, rfl⟩ : ∃ m : Nat, mi = (m : Int) := ⟨mi.toNat, by omega⟩
    have d02 := d1.trans d2
    refine ⟨_, _, rfl, ?_⟩
    refine ⟨.ref p, rfl, .ref p, rfl, .int kn, rfl, p, kn, k + 797, rfl, d2.2, by omega, by omega, fun r H3 r0 r1 d3 => ?_⟩
    obtain ⟨n, hn⟩ : ∃ n : Nat, 1 + r = (n : Int) := ⟨(1 + r).toNat, by omega⟩
    refine ⟨1, r, rfl, rfl, p, n, k + 697, congrArg (fun z => [V.ref p, V.int z]) hn, d3.2, by omega, fun tk ks H4 hks d4 ntk ntkp htk => ?_⟩
    have hkl := hks.len
    refine ⟨.ref p, rfl, .int b, rfl, .int m, rfl, .ref tk, rfl, .bl ab, rfl, p, tk, b, m, k + 197, ab, ks, rfl, d4.2, b0, b1, b97, by omega, by omega, htk, by rw [hkl]; exact hks, by omega, by omega, fun q0 ms ws Ms H5 d5 nq0 nq0p bk ok => ?_⟩
    have d05 := ((d02.trans d3).trans d4).trans d5
    have htk5 : H5 tk = some (.tup (ks.map V.str)) := d5.st ntkp htk
    have nq : H q0 = none := ((d02.trans d3).trans d4).fr nq0
    have done : ∀ H8, Dr p k H5 H8 → Q (.ref q0) H8 := fun H8 d8 => q q0 b m ms ks ws Ms H8 hb hmi (d05.trans d8) nq nq0p (bk.dr d5.2 d8) ok
    refine ⟨.ref tk, rfl, tk, _, rfl, .inr (SqT.of htk5), .int m, rfl, _, _, rfl, rfl, _, rfl, ite2 (fun hle => ?_) (fun _ => ?_)⟩
    · have hle : ((ks.map V.str).length : Int) ≤ (m : Int) := of_decide_eq_true hle
      rw [List.length_map, hkl] at hle
      refine ⟨.ref p, rfl, p, 6, k + 196, rfl, d5.2, by decide, by decide, fun r6 H6 _ _ d6 => ?_⟩
      refine ⟨rfl, _, rfl, ite2 (fun _ => ?_) (fun _ => ?_)⟩
      · have d06 := d05.trans d6
        have bk6 := bk.dr d5.2 d6
        have htk6 : H6 tk = some (.tup (ks.map V.str)) := d6.st ntkp htk5
        obtain ⟨kvs, tm, tw, tk', td, hO, hl10, v1, v2, hT2, v3, hT3, v4, hT4, v5, tkvs, hTd, tnd, tln, tabs⟩ := id bk6
        have hml := ok.nm.len
        refine ⟨.ref q0, rfl, q0, _, rfl, dget hO v2, .ref tk, rfl, tm, tk, _, _, rfl, .inr ⟨SqT.of hT2, SqT.of htk6, fun D hD => ?_⟩⟩
        refine lc_zipT (K := K) (a := tm) (b := tk) (xs := ms.map V.str) (ys := ks.map V.str) (fun i H7 => i ≤ n ∧ Same H6 H7 ∧ ∃ (ps ts : List Addr), H7 D = some (.lst (ps.map V.ref)) ∧ ps.length = i ∧ ts.length = i ∧
            ∀ (j : Nat) (a t : Addr) (z : Str), ps[j]? = some a → ts[j]? = some t → ms[j]? = some z → H7 a = some (.tup [.str z, .ref t]) ∧ ∃ M, Ms[j]? = some M ∧ Tab b H6 t m M)
          ⟨Nat.zero_le _, same_new hD, [], [], upd_same, rfl, rfl, fun j a t kd h => by simp at h⟩ (fun i H7 ⟨_, s7, _⟩ => ⟨SqT.of (s7 _ _ hT2), SqT.of (s7 _ _ htk6)⟩) ?_ ?_
        · rintro i x y T7 H7 hx hy ⟨_, s7, ps, ts, g1, g2, g3, g4⟩ hT7
          obtain ⟨z, hz, rfl⟩ := str_at hx
          obtain ⟨kd, hkd, rfl⟩ := str_at hy
          have hik : i < ks.length := (List.getElem?_eq_some_iff.mp hkd).1
          obtain ⟨t, M, e1, e2, e3⟩ := tabs i kd hkd
          have s8 := s7.trans (same_new (o := .tup [.str z, .str kd]) hT7)
          refine ⟨T7, _, rfl, SqT.of upd_same, rfl, _, _, rfl, _, _, rfl, rfl, ?_⟩
          refine ⟨rfl, ?_⟩
          refine ⟨_, rfl, .ref q0, rfl, q0, _, rfl, dget (s8 _ _ hO) v5, .str kd, rfl, td, _, rfl, dget (s8 _ _ hTd) e1, ?_⟩
          refine ⟨(by show 2 ≤ sizeLine; decide), fun tt htt => ?_⟩
          have s9 := s8.trans (same_new (o := .tup [.str z, .ref t]) htt)
          have hD9 : (upd (upd H7 T7 (.tup [.str z, .str kd])) tt (.tup [.str z, .ref t])) D = some (.lst (ps.map V.ref)) := same_new htt _ _ (same_new hT7 _ _ g1)
          have nttD : tt ≠ D := fun e => by
            rw [e, same_new hT7 _ _ g1] at htt
            cases htt
          refine ⟨_, hD9, by rw [List.length_map]; exact small1000 (by omega), by omega, fun a o ho => ?_, ps ++ [tt], ts ++ [t], ?_, by rw [List.length_append, g2]; rfl, by rw [List.length_append, g3]; rfl, fun j a t' z' ha ht' hz' => ?_⟩
          · rw [upd_ne (ne_of_none ho hD)]
            exact s9 _ _ ho
          · rw [upd_same, List.map_append]
            rfl
          · by_cases hj : j < i
            · rw [List.getElem?_append_left (by omega)] at ha ht'
              obtain ⟨u1, u2⟩ := g4 j a t' z' ha ht' hz'
              have e := same_new (o := .tup [.str z, .ref t]) htt _ _ (same_new (o := .tup [.str z, .str kd]) hT7 _ _ u1)
              refine ⟨?_, u2⟩
              rw [upd_ne (ne_of e hD9 (by intro z; cases z))]
              exact e
            · have hjl : j < (ps ++ [tt]).length := (List.getElem?_eq_some_iff.mp ha).1
              rw [List.length_append, List.length_singleton] at hjl
              have hji : j = i := by omega
              subst hji
              rw [List.getElem?_append_right (by omega), show j - ps.length = 0 by omega] at ha
              rw [List.getElem?_append_right (by omega), show j - ts.length = 0 by omega] at ht'
              have ea : tt = a := Option.some.inj ha
              have et : t = t' := Option.some.inj ht'
              rw [hz] at hz'
              have ek : z = z' := Option.some.inj hz'
              subst ea et ek
              exact ⟨by rw [upd_ne nttD, upd_same], M, e2, e3⟩
        · rintro H7 ⟨hin, s7, ps, ts, g1, g2, g3, g4⟩
          rw [List.length_map, List.length_map, hml, hkl, Nat.min_eq_right (by omega)] at g2 g3
          have hkv : ∀ (j : Nat) (t : Addr) (z : Str), ts[j]? = some t → (ms.take n)[j]? = some z → (((ms.take n).zip ts).map fun q => ((.inr q.1 : Key), V.ref q.2))[j]? = some (.inr z, .ref t) := fun j t z h1 h2 => by
            rw [List.getElem?_map, List.getElem?_zip_eq_some (z := (z, t)) |>.mpr ⟨h2, h1⟩]
            rfl
          have htl : (ms.take n).length = n := by
            rw [List.length_take, hml]
            omega
          have nmt := ok.nm.take (n := n) (by omega)
          have hnd : ((((ms.take n).zip ts).map fun q => ((.inr q.1 : Key), V.ref q.2)).map (·.1)).Nodup := by
            rw [List.map_map]
            have e : ((fun x : Key × V => x.1) ∘ fun q : Str × Addr => ((.inr q.1 : Key), V.ref q.2)) = (fun z : Str => (.inr z : Key)) ∘ (fun q : Str × Addr => q.1) := rfl
            rw [e, ← List.map_map, List.map_fst_zip (by omega)]
            have n := nmt.nd
            unfold List.Nodup at n ⊢
            rw [List.pairwise_map]
            exact n.imp fun h e => h (Sum.inr.inj e)
          have at_take : ∀ (j : Nat) (z : Str), (ms.take n)[j]? = some z → ms[j]? = some z := fun j z h => by
            rw [List.getElem?_take] at h
            split at h
            · exact h
            · cases h
          have hln : (((ms.take n).zip ts).map fun q => ((.inr q.1 : Key), V.ref q.2)).length ≤ 10 := by
            rw [List.length_map, List.length_zip]
            omega
          refine ⟨D, ps, ((ms.take n).zip ts).map fun q => ((.inr q.1 : Key), V.ref q.2), rfl, SqL.of g1, paired_of ?_ fun j a kv ha hkv' => ?_, fun dd hdd => ?_⟩
          · rw [List.length_map, List.length_zip]
            omega
          · rw [List.getElem?_map] at hkv'
            cases e : ((ms.take n).zip ts)[j]? with
            | none =>
              rw [e] at hkv'
              cases hkv'
            | some kt =>
              rw [e] at hkv'
              have ekv := Option.some.inj hkv'
              obtain ⟨z1, z2⟩ := List.getElem?_zip_eq_some.mp e
              obtain ⟨u1, _⟩ := g4 j a kt.2 kt.1 ha z2 (at_take _ _ z1)
              rw [← ekv]
              exact SqT.of u1
          · rw [merge0 hnd]
            generalize hkvs : (((ms.take n).zip ts).map fun q => ((.inr q.1 : Key), V.ref q.2)) = tkv at *
            have s8 := s7.trans (same_new (o := .dK tkv) hdd)
            have sdd := same_new (o := .dK tkv) hdd
            have hdd8 : (upd H7 dd (.dK tkv)) dd = some (.dK tkv) := upd_same
            have stored : ∀ (H8 : Hp) (tn : Addr), Same (upd H7 dd (.dK tkv)) H8 → H8 tn = some (.tup ((ms.take n).map V.str)) →
                ∃ (H9 H10 : Hp), DPut H8 q0 (.str "kinds") (.ref tn) H9 ∧ DPut H9 q0 (.str "tables") (.ref dd) H10 ∧ ∀ H11, Same H10 H11 → Q (.ref q0) H11 := fun H8 tn sx htn => by
              have s68 := s8.trans sx
              have hO8 := s68 _ _ hO
              have len9 : ∀ (kv : List (Key × V)) (k : Key) (v : V), (putK kv k v).length ≤ kv.length + 1 := fun kv k v => by
                unfold putK
                split
                · rw [List.length_map]
                  omega
                · rw [List.length_append]
                  exact Nat.le_refl _
              refine ⟨_, _, DPut.k (k := .inr "kinds") hO8 (small1000 (by omega)), DPut.k (k := .inr "tables") upd_same (small1000 (Nat.le_trans (len9 _ _ _) (by omega))), fun H11 s11 => ?_⟩
              generalize hkv2 : putK (putK kvs (.inr "kinds") (.ref tn)) (.inr "tables") (.ref dd) = kvs2 at s11
              have look : ∀ (s : Str), ¬ s = "kinds" → ¬ s = "tables" → valV kvs2 (.inr s) = valV kvs (.inr s) := fun s h1 h2 => by
                rw [← hkv2, valV_put, if_neg (k_ne h2), valV_put, if_neg (k_ne h1)]
              have lk : valV kvs2 (.inr "kinds") = some (.ref tn) := by
                rw [← hkv2, valV_put, if_neg (k_ne (by decide +kernel)), valV_put, if_pos rfl]
              have lt : valV kvs2 (.inr "tables") = some (.ref dd) := by
                rw [← hkv2, valV_put, if_pos rfl]
              have nT : ∀ {a : Addr} {xs : List V}, H8 a = some (.tup xs) → H11 a = some (.tup xs) := fun {a xs} e => s11 _ _ (by
                rw [upd_ne (ne_of e hO8 (by intro z; cases z)), upd_ne (ne_of e hO8 (by intro z; cases z))]
                exact e)
              have nddq : dd ≠ q0 := fun z => by
                rw [z, s7 _ _ hO] at hdd
                cases hdd
              have nup : ∀ xs, H8 q0 ≠ some (.tup xs) := fun xs z => by
                rw [hO8] at z
                cases z
              have l9 : kvs2.length ≤ 12 := by
                rw [← hkv2]
                exact Nat.le_trans (len9 _ _ _) (Nat.le_trans (Nat.add_le_add_right (len9 _ _ _) 1) (by omega))
              have d8 := d06.sm s68
              have dx : Dr p (k + 196) H H11 := ((d8.mut nq nq0p).mut nq nq0p).sm s11
              have nup9 : ∀ xs, (upd H8 q0 (.dK (putK kvs (.inr "kinds") (.ref tn)))) q0 ≠ some (.tup xs) := fun xs z => by
                rw [upd_same] at z
                cases z
              refine q q0 b m ms (ms.take n) ws Ms H11 hb hmi (dx.mono (by omega)) nq nq0p ⟨kvs2, tm, tw, tn, dd, s11 _ _ upd_same, ?_, by rw [look _ (by decide +kernel) (by decide +kernel)]; exact v1, by rw [look _ (by decide +kernel) (by decide +kernel)]; exact v2, nT (s68 _ _ hT2), by rw [look _ (by decide +kernel) (by decide +kernel)]; exact v3, nT (s68 _ _ hT3), lk, nT htn, lt, tkv, s11 _ _ (by rw [upd_ne nddq, upd_ne nddq]; exact sx _ _ hdd8), hnd, hln, fun i z hz => ?_⟩ ⟨ok.b0, ok.b1, ok.b97, ok.m1, ok.m4, ok.nm, ok.wl, ok.w, by rw [htl]; exact nmt, by omega, by omega, by rw [ok.ml, hkl, htl]⟩
              · rw [← hkv2, put_len (x := .ref td) (by rw [valV_put, if_neg (k_ne (by decide +kernel))]; exact v5), put_len v4]
                exact hl10
              · have hi : i < n := by
                  have := (List.getElem?_eq_some_iff.mp hz).1
                  omega
                have ht : ts[i]? = some (ts[i]'(by omega)) := List.getElem?_eq_getElem (by omega)
                have hp : ps[i]? = some (ps[i]'(by omega)) := List.getElem?_eq_getElem (by omega)
                obtain ⟨u1, M, u3, u4⟩ := g4 i _ _ z hp ht (at_take _ _ hz)
                exact ⟨_, M, valV_of hnd (hkv i _ z ht hz), u3, (((u4.same s68).upd nup).upd nup9).same s11⟩
            have s8O := s8 _ _ hO
            refine ⟨.ref q0, rfl, q0, _, rfl, dget s8O v2, .ref tk, rfl, tk, _, rfl, .inr (SqT.of (s8 _ _ htk6)), (n : Int), by rw [List.length_map, hkl], ?_⟩
            refine ⟨tm, _, rfl, SqT.of (s8 _ _ hT2), fun wh => ?_, fun _ tn htn => ?_⟩
            · refine ⟨_, rfl, (by show 2 ≤ sizeLine; decide), fun tt htt => ?_⟩
              have et : ms.take n = ms := by
                have e := wh.2
                rw [HT.sIx_nat, List.length_map] at e
                exact List.take_of_length_le (by omega)
              obtain ⟨H9, H10, e1, e2, e3⟩ := stored _ tm (same_new (o := .tup [.ref tm, .ref dd]) htt) (by rw [et]; exact same_new htt _ _ (s8 _ _ hT2))
              exact ⟨tt, _, rfl, SqT.of upd_same, rfl, _, _, rfl, .ref q0, rfl, q0, H9, rfl, e1, _, _, rfl, .ref q0, rfl, q0, H10, rfl, e2, rfl, _, rfl, e3 H10 (Same.refl _)⟩
            · refine ⟨_, rfl, (by show 2 ≤ sizeLine; decide), fun tt htt => ?_⟩
              have sn := same_new (o := .tup (cutV (ms.map V.str) none (some (n : Int)))) htn
              have ec : cutV (ms.map V.str) none (some (n : Int)) = (ms.take n).map V.str := by
                rw [cut_to, List.map_take]
              obtain ⟨H9, H10, e1, e2, e3⟩ := stored _ tn (sn.trans (same_new (o := .tup [.ref tn, .ref dd]) htt)) (by rw [upd_ne (ne_new htt).symm, upd_same, ec])
              exact ⟨tt, _, rfl, SqT.of upd_same, rfl, _, _, rfl, .ref q0, rfl, q0, H9, rfl, e1, _, _, rfl, .ref q0, rfl, q0, H10, rfl, e2, rfl, _, rfl, e3 H10 (Same.refl _)⟩
      · exact ⟨_, rfl, done H6 (d6.mono (by omega))⟩
    · exact ⟨_, rfl, done H5 (Dr.start d5.2 (by omega))⟩
end
end OG
set_option Elab.async false
set_option linter.all false
set_option maxRecDepth 100000
set_option maxHeartbeats 8000000
namespace OG
open PySem PySem.Spec PyProof.Rows L2
section
variable {P : Program} {w : World} {K : PySem.W.Frag} {mg : Str → Option Value} {base : Heap}
def spPick : Sp := fun vs H Q _ => ∃ (o pl tn wa : Addr) (b : Int) (m m' : Nat) (ms ks nn : List Str) (ws us : List Int) (Ms : List (List (List Int))) (ns : List Nat), vs = [.ref o, .ref pl, .ref tn, .ref wa] ∧ BookAt H o b m ms ws ks Ms ∧ BkOk b m ms ws ks Ms ∧
  H pl = some (.lst (ns.map fun (n : Nat) => V.int (n : Int))) ∧ ns.length = m' ∧ (∀ n ∈ ns, n < m) ∧ 1 ≤ m' ∧ m' ≤ 4 ∧ H tn = some (.tup (nn.map V.str)) ∧ Nms nn m' ∧ H wa = some (.lst (us.map V.int)) ∧ us.length = m' ∧ (∀ z ∈ us, WOk b z) ∧
  ∀ (q : Addr) (Ms' : List (List (List Int))) (H' : Hp), Same H H' → H q = none → BookAt H' q b m' nn us ks Ms' → BkOk b m' nn us ks Ms' → Q (.ref q) H'
theorem ok_l_book_picked (T : Txt K mg) : FnOk P w K mg base CX0 1 T.f_l_book_picked T.fd_l_book_picked ["own", "places", "names", "weights"] (spPick) := by
  refine T.F_l_book_picked.ok sc_l_book_picked (fun vs H Q E h => ?_) (fun cdv A outer s H vs Q E hr h => ?_)
  · obtain ⟨o, pl, tn, wa, b, m, m', ms, ks, nn, ws, us, Ms, ns, rfl, _⟩ := h
    rfl
  · obtain ⟨o, pl, tn, wa, b, m, m', ms, ks, nn, ws, us, Ms, ns, rfl, hB, ok, hpl0, g2, g3, m1', m4', htn0, hnn, hwa0, hul, hus, q⟩ := h
    refine ⟨_, (pss_cons (ps_set (i := 4) sc_l_book_picked.nd rfl (Or.inl rfl) pe_dnewK)
  (pss_cons (ps_for PassesOwn.never rfl (pi_tup (pe_dget (hu_of hr) (pv 0) pe_str (fun _ _ => rfl))) (pg_name (i := 5) sc_l_book_picked.nd rfl (Or.inr rfl)) (pss_one (ps_dput (hu_of hr) (pv 4) (pv 5) (pe_callTy call_tuple_of (by rfl) T.n_tuple (by decide +kernel) (pa_cons (pe_lc (own := [("a", 6)]) (g := gName 6) (by rfl) sc_l_book_picked.nd (pi_list (pv 1)) (blkOk_by (own := [("a", 6)]) (by rfl)) (fun _ _ _ _ _ => (pg_name (i := 6) sc_l_book_picked.nd rfl (Or.inr rfl))) (fun _ _ _ _ _ => pts_nil) (fun _ _ _ _ _ => (pe_callTy (call_tuple_ofK K) (by rfl) T.n_tuple (by decide +kernel) (pa_cons (pe_lc (own := [("b", 7)]) (g := gName 7) (by rfl) sc_l_book_picked.nd (pi_listK K (pv 1)) (blkOk_by (own := [("b", 7)]) (by rfl)) (fun _ _ _ _ _ => (pg_name (i := 7) sc_l_book_picked.nd rfl (Or.inl rfl))) (fun _ _ _ _ _ => pts_nil) (fun _ _ _ _ _ => (pe_ix (ix_tupK K) (pe_ix (ix_tupK K) (pe_dget (hu_of hr) (pe_dget (hu_of hr) (pv 0) pe_str (fun _ _ => rfl)) (pv 5) (fun _ _ => rfl)) (pv 6) (fun _ _ => rfl)) (pv 7) (fun _ _ => rfl)))) pa_nil)))) pa_nil)) rfl)))
  (pss_one (ps_ret (pe_disp (pps_cons pe_str (pe_dget (hu_of hr) (pv 0) pe_str (fun _ _ => rfl)) (pps_cons pe_str (pe_callTy call_tuple_of (by rfl) T.n_tuple (by decide +kernel) (pa_cons (pv 2) pa_nil)) (pps_cons pe_str (pe_callTy call_tuple_of (by rfl) T.n_tuple (by decide +kernel) (pa_cons (pv 3) pa_nil)) (pps_cons pe_str (pe_dget (hu_of hr) (pv 0) pe_str (fun _ _ => rfl)) (pps_cons pe_str (pv 4) pps_nil))))) (by rfl) (by rfl) (fun z => by cases z) (by decide)))))), ?_⟩
    have hm4 := ok.m4
    have hm1 := ok.m1
    have hk3 := ok.k3
    obtain ⟨kvs, tm, tw, tk, td, hO, hl10, v1, v2, hT2, v3, hT3, v4, hT4, v5, tkvs, hTd, tnd, tln, tabs⟩ := id hB
    refine fun d hd => ?_
    have s1 := same_new (o := .dK []) hd
    have s3 := s1
    have hd3 : (upd H d (.dK [])) d = some (.dK []) := upd_same
    have hpl3 := s1 _ _ hpl0
    have npd : pl ≠ d := ne_of_none hpl0 hd
    refine ⟨.ref o, rfl, o, _, rfl, dget (s3 _ _ hO) v4, tk, rfl, ⟨_, SqT.of (s3 _ _ hT4)⟩, ?_⟩
    refine for_tup (K := K) (a := tk) (xs := ks.map V.str) (fun i σ H' => ∃ (v5 v6 v7 : Option V) (tkv : List (Key × V)) (Ms' : List (List (List Int))), σ = [some (.ref o), some (.ref pl), some (.ref tn), some (.ref wa), some (.ref d), v5, v6, v7] ∧ Same H H' ∧ H' pl = some (.lst (ns.map fun (n : Nat) => V.int (n : Int))) ∧
        H' d = some (.dK tkv) ∧ tkv.length ≤ i ∧ (tkv.map (·.1)).Nodup ∧ Ms'.length = i ∧ ∀ (j : Nat) (k : Str), j < i → ks[j]? = some k → ∃ (t : Addr) (M : List (List Int)), valV tkv (.inr k) = some (.ref t) ∧ Ms'[j]? = some M ∧ Tab b H' t m' M)
      ⟨none, none, none, [], [], rfl, s3, hpl3, hd3, Nat.le_refl _, List.nodup_nil, rfl, fun j k h => absurd h (Nat.not_lt_zero _)⟩ (fun i σ H' _ ⟨_, _, _, _, _, _, s, _⟩ => SqT.of (s _ _ hT4)) ?_ ?_
    · rintro i u σ H' hu ⟨v5', v6, v7, tkv, Ms', rfl, s, h1, h2, h3, hnd, h4, h5⟩
      obtain ⟨k, hk, rfl⟩ : ∃ k, ks[i]? = some k ∧ u = .str k := by
        rw [List.getElem?_map] at hu
        cases e : ks[i]? with
        | none =>
          rw [e] at hu
          cases hu
        | some k =>
          rw [e] at hu
          exact ⟨k, rfl, (Option.some.inj hu).symm⟩
      obtain ⟨t, M, e1, e2, e3⟩ := tabs i k hk
      have hk3 := ok.k3
      have hik : i < ks.length := (List.getElem?_eq_some_iff.mp hk).1
      refine ⟨.ref pl, rfl, pl, rfl, ⟨_, SqL.of h1⟩, fun D hD => ?_⟩
      refine lc_list (K := K) (a := pl) (xs := ns.map fun (n : Nat) => V.int (n : Int)) (fun a H2 => a ≤ m' ∧ Same H' H2 ∧ ∃ (qs : List Addr) (N : List (List Int)), H2 D = some (.lst (qs.map V.ref)) ∧ qs.length = a ∧ N.length = a ∧
          (∀ (j : Nat) (q : Addr), qs[j]? = some q → q ≠ D ∧ ∃ row : List Int, N[j]? = some row ∧ H2 q = some (.tup (row.map V.int))) ∧ ∀ row ∈ N, row.length = m' ∧ ∀ z ∈ row, TOk b z)
        ⟨Nat.zero_le _, same_new hD, [], [], upd_same, rfl, rfl, fun j q h => by simp at h, fun _ h => by cases h⟩ (fun a H2 _ ⟨_, s, _⟩ => SqL.of (s _ _ h1)) ?_ ?_
      · rintro a w H3 hw ⟨_, sa, qs, N, f1, f2, f3, f4, f5⟩
        have ham : a < m' := by
          have := (List.getElem?_eq_some_iff.mp hw).1
          rw [List.length_map] at this
          omega
        obtain ⟨na, hna, rfl⟩ := nat_at hw
        refine ⟨rfl, ?_⟩
        refine ⟨.ref pl, rfl, pl, rfl, ⟨_, SqL.of (sa _ _ h1)⟩, fun D2 hD2 => ?_⟩
        refine lc_list (K := K) (a := pl) (xs := ns.map fun (n : Nat) => V.int (n : Int)) (fun c H4 => c ≤ m' ∧ Same H3 H4 ∧ ∃ zs : List Int, H4 D2 = some (.lst (zs.map V.int)) ∧ zs.length = c ∧ ∀ z ∈ zs, TOk b z)
          ⟨Nat.zero_le _, same_new hD2, [], upd_same, rfl, fun _ h => by cases h⟩ (fun c H4 _ ⟨_, s4, _⟩ => SqL.of (s4 _ _ (sa _ _ h1))) ?_ ?_
        · rintro c w H4 hw ⟨_, s4, zs, r1, r2, r3⟩
          have hcm : c < m' := by
            have := (List.getElem?_eq_some_iff.mp hw).1
            rw [List.length_map] at this
            omega
          obtain ⟨nc, hnc, rfl⟩ := nat_at hw
          have sH := ((s.trans sa).trans s4)
          obtain ⟨rs, r, row, z, y1, y2, y3, y4, y5⟩ := (e3.same sH).at (g3 na hna) (g3 nc hnc)
          refine ⟨rfl, ?_⟩
          refine ⟨.ref o, rfl, o, _, rfl, dget (sH _ _ hO) v5, .str k, rfl, td, _, rfl, dget (sH _ _ hTd) e1, ?_⟩
          refine ⟨.int na, rfl, t, _, (na : Int), _, rfl, rfl, SqT.of y1, atI_nat y2, ?_⟩
          refine ⟨.int nc, rfl, r, _, (nc : Int), _, rfl, rfl, SqT.of y3, atI_nat y4, ?_⟩
          refine ⟨_, r1, by rw [List.length_map]; exact small1000 (by omega), hcm, fun a o ho => ?_, zs ++ [z], ?_, by rw [List.length_append, r2]; rfl, fun u hu => ?_⟩
          · rw [upd_ne (ne_of_none ho hD2)]
            exact s4 _ _ ho
          · rw [upd_same, List.map_append]
            rfl
          · rcases List.mem_append.mp hu with v | v
            · exact r3 u v
            · rw [List.mem_singleton.mp v]
              exact y5
        · rintro H4 ⟨_, s4, zs, r1, r2, r3⟩
          rw [List.length_map, g2] at r2
          refine ⟨D2, _, rfl, .inl ⟨SqL.of r1, fun t2 ht2 => ?_⟩⟩
          have s5 := s4.trans (same_new (o := .tup (zs.map V.int)) ht2)
          have nDt : D ≠ t2 := ne_of_none (s4 _ _ f1) ht2
          refine ⟨_, s5 _ _ f1, by rw [List.length_map]; exact small1000 (by omega), ham, fun a o ho => ?_, qs ++ [t2], N ++ [zs], ?_, by rw [List.length_append, f2]; rfl, by rw [List.length_append, f3]; rfl, fun j q hq => ?_, fun r hr => ?_⟩
          · rw [upd_ne (ne_of_none ho hD)]
            exact s5 _ _ (sa _ _ ho)
          · rw [upd_same, List.map_append]
            rfl
          · by_cases hj : j < qs.length
            · rw [List.getElem?_append_left hj] at hq
              obtain ⟨k1, row', k2, k3⟩ := f4 j q hq
              exact ⟨k1, row', by rw [List.getElem?_append_left (by omega)]; exact k2, by rw [upd_ne k1]; exact s5 _ _ k3⟩
            · rw [List.getElem?_append_right (by omega)] at hq
              have hj0 : j - qs.length = 0 := by
                have := (List.getElem?_eq_some_iff.mp hq).1
                simp only [List.length_singleton] at this
                omega
              rw [hj0] at hq
              have eq : t2 = q := Option.some.inj hq
              subst eq
              refine ⟨nDt.symm, zs, ?_, by rw [upd_ne nDt.symm, upd_same]⟩
              rw [List.getElem?_append_right (by omega), show j - N.length = 0 by omega]
              rfl
          · rcases List.mem_append.mp hr with v | v
            · exact f5 r v
            · rw [List.mem_singleton.mp v]
              exact ⟨r2, r3⟩
      · rintro H3 ⟨_, sa, qs, N, f1, f2, f3, f4, f5⟩
        rw [List.length_map, g2] at f2 f3
        refine ⟨D, _, rfl, .inl ⟨SqL.of f1, fun t2 ht2 => ?_⟩⟩
        have s6 := sa.trans (same_new (o := .tup (qs.map V.ref)) ht2)
        have hdn : (upd H3 t2 (.tup (qs.map V.ref))) d = some (.dK tkv) := s6 _ _ h2
        refine ⟨.ref d, rfl, .str k, rfl, d, _, rfl, DPut.k (k := .inr k) hdn (small1000 (by omega)), ?_⟩
        have ndH : ∀ a z, H a = some z → a ≠ d := fun a z hz => ne_of_none hz hd
        have n2d : t2 ≠ d := fun z => by
          rw [z, sa _ _ h2] at ht2
          cases ht2
        have tabN : Tab b (upd (upd H3 t2 (.tup (qs.map V.ref))) d (.dK (putK tkv (.inr k) (.ref t2)))) t2 m' N := by
          refine ⟨qs, by rw [upd_ne n2d, upd_same], f2, f3, fun j r hr => ?_, f5⟩
          obtain ⟨k1, row, k2, k3⟩ := f4 j r hr
          have nrd : r ≠ d := fun z => by
            rw [z, sa _ _ h2] at k3
            cases k3
          exact ⟨row, k2, by rw [upd_ne nrd, upd_ne (ne_of_none k3 ht2)]; exact k3⟩
        refine ⟨_, _, _, putK tkv (.inr k) (.ref t2), Ms' ++ [N], rfl, fun a z hz => ?_, ?_, upd_same, ?_, putK_nd hnd, by rw [List.length_append, h4]; rfl, fun j k' hj hk' => ?_⟩
        · rw [upd_ne (ndH a z hz)]
          exact s6 _ _ (s _ _ hz)
        · rw [upd_ne npd]
          exact s6 _ _ h1
        · unfold putK
          split
          · rw [List.length_map]
            omega
          · rw [List.length_append]
            show tkv.length + 1 ≤ i + 1
            omega
        · by_cases hji : j < i
          · obtain ⟨t', M', k1, k2, k3⟩ := h5 j k' hji hk'
            have nkk : ¬ (Sum.inr k' : Key) = Sum.inr k := fun z => by
              have z := Sum.inr.inj z
              rw [z] at hk'
              have := (List.getElem?_inj (show j < ks.length by omega) ok.nk.nd).mp (hk'.trans hk.symm)
              omega
            refine ⟨t', M', ?_, by rw [List.getElem?_append_left (by omega)]; exact k2, ?_⟩
            · rw [valV_put, if_neg nkk]
              exact k1
            · have k4 := k3.same s6
              obtain ⟨rs, l1, l2, l3, l4, l5⟩ := k4
              have nt : t' ≠ d := fun z => by
                rw [z, hdn] at l1
                cases l1
              refine ⟨rs, by rw [upd_ne nt]; exact l1, l2, l3, fun j r hr => ?_, l5⟩
              obtain ⟨row, p1, p2⟩ := l4 j r hr
              have nr : r ≠ d := fun z => by
                rw [z, hdn] at p2
                cases p2
              exact ⟨row, p1, by rw [upd_ne nr]; exact p2⟩
          · have eji : j = i := by omega
            subst eji
            rw [hk] at hk'
            have ek := Option.some.inj hk'
            subst ek
            refine ⟨t2, N, ?_, ?_, tabN⟩
            · rw [valV_put, if_pos rfl]
            · rw [List.getElem?_append_right (by omega), show j - Ms'.length = 0 by omega]
              rfl
    · rintro σ H' ⟨v5', v6, v7, tkv, Ms', rfl, s, h1, h2, h3, hnd, h4, h5⟩
      rw [List.length_map] at h3 h4 h5
      refine fun q' hq' => ?_
      have sq := same_new (o := .dK []) hq'
      have sH := s.trans sq
      refine ⟨.ref o, rfl, o, _, rfl, dget (sH _ _ hO) v1, ?_⟩
      refine ⟨.ref tn, rfl, tn, _, rfl, .inr ⟨SqT.of (sH _ _ htn0), ?_⟩⟩
      refine ⟨.ref wa, rfl, wa, _, rfl, .inl ⟨SqL.of (sH _ _ hwa0), fun tv htv => ?_⟩⟩
      have st := same_new (o := .tup (us.map V.int)) htv
      have nqv : q' ≠ tv := ne_of_none upd_same htv
      refine ⟨.ref o, rfl, o, _, rfl, dget (st _ _ (sH _ _ hO)) v4, ?_⟩
      refine ⟨.ref d, rfl, ?_⟩
      refine ⟨st _ _ upd_same, dict5 b tn tv tk d, rfl, (by show 5 ≤ 15; decide), ?_⟩
      rw [merge0 (dict5_nd b tn tv tk d)]
      have sF' : Same H' (upd (upd (upd H' q' (.dK [])) tv (.tup (us.map V.int))) q' (.dK (dict5 b tn tv tk d))) := fun a z hz => by
        have n : a ≠ q' := ne_of_none hz hq'
        rw [upd_ne n]
        exact st _ _ (sq _ _ hz)
      have sF : Same H (upd (upd (upd H' q' (.dK [])) tv (.tup (us.map V.int))) q' (.dK (dict5 b tn tv tk d))) := s.trans sF'
      obtain ⟨w1, w2, w3, w4, w5⟩ := dict5_at b tn tv tk d
      refine q q' Ms' _ sF (s.free hq') ⟨_, tn, tv, tk, d, upd_same, (by show 5 ≤ 10; decide), w1, w2, sF _ _ htn0, w3, by rw [upd_ne nqv.symm, upd_same], w4, sF _ _ hT4, w5, tkv, sF' _ _ h2, hnd, Nat.le_trans h3 (Nat.le_trans hk3 (by decide)), fun i k hk => ?_⟩ ⟨ok.b0, ok.b1, ok.b97, m1', m4', hnn, hul, hus, ok.nk, ok.k1, ok.k3, h4⟩
      obtain ⟨t, M, a1, a2, a3⟩ := h5 i k (List.getElem?_eq_some_iff.mp hk).1 hk
      exact ⟨t, M, a1, a2, a3.same sF'⟩
end
end OG
set_option Elab.async false
set_option linter.all false
set_option maxRecDepth 100000
set_option maxHeartbeats 8000000
namespace OG
open PySem PySem.Spec PyProof.Rows L2
theorem natsOf {m : Nat} : ∀ (ys : List V), (∀ y ∈ ys, ∃ n : Nat, n < m ∧ y = .int (n : Int)) → ∃ ns : List Nat, ys = ns.map (fun (n : Nat) => V.int (n : Int)) ∧ ∀ n ∈ ns, n < m
  | [], _ => ⟨[], rfl, fun _ h => by cases h⟩
  | y :: r, h => by
    obtain ⟨n, hn, rfl⟩ := h y List.mem_cons_self
    obtain ⟨ns, e, hns⟩ := natsOf r fun z hz => h z (List.mem_cons_of_mem _ hz)
    refine ⟨n :: ns, by rw [e]; rfl, fun u hu => ?_⟩
    rcases List.mem_cons.mp hu with v | v
    · rw [v]
      exact hn
    · exact hns u v
theorem w_at {b : Int} {ws : List Int} {m n : Nat} (hl : ws.length = m) (hw : ∀ z ∈ ws, WOk b z) (hn : n < m) : ∃ z, (ws.map V.int)[n]? = some (.int z) ∧ WOk b z := by
  have e : ws[n]? = some (ws[n]'(by omega)) := List.getElem?_eq_getElem (by omega)
  refine ⟨_, ?_, hw _ (List.mem_of_getElem? e)⟩
  rw [List.getElem?_map, e]
  rfl
section
variable {P : Program} {w : World} {K : PySem.W.Frag} {mg : Str → Option Value} {base : Heap}
def spRen : Sp := fun vs H Q _ => ∃ (p o : Addr) (k : Nat) (b : Int) (m : Nat) (ms ks : List Str) (ws : List Int) (Ms : List (List (List Int))), vs = [.ref p, .ref o] ∧ Pot (k + 200) H p ∧ BookAt H o b m ms ws ks Ms ∧ BkOk b m ms ws ks Ms ∧
  ∀ (q : Addr) (ms' : List Str) (ws' : List Int) (Ms' : List (List (List Int))) (H' : Hp), Dr p k H H' → H q = none → q ≠ p → BookAt H' q b m ms' ws' ks Ms' → BkOk b m ms' ws' ks Ms' → Q (.ref q) H'
theorem ok_l_book_renamed (T : Txt K mg) : FnOk P w K mg base CX0 4 T.f_l_book_renamed T.fd_l_book_renamed ["pot", "own"] (spRen) := by
  refine T.F_l_book_renamed.ok sc_l_book_renamed (fun vs H Q E h => ?_) (fun cdv A outer s H vs Q E hr h => ?_)
  · obtain ⟨p, o, k, b, m, ms, ks, ws, Ms, rfl, _⟩ := h
    rfl
  · obtain ⟨p, o, k, b, m, ms, ks, ws, Ms, rfl, hP, hB, ok, q⟩ := h
    refine ⟨_, (pss_cons (ps_set (i := 2) sc_l_book_renamed.nd rfl (Or.inl rfl) (pe_call (ok_l_some T) (hr.mono (by decide)) (by rfl) T.g_l_some T.F_l_some.kp T.b_l_some .nil pass0 (pa_cons (pv 0) (pa_cons (pe_listRg (by rfl) (by rfl) T.n_list (prg_1 (by rfl) T.n_range (pe_callB call_len_seq (by rfl) T.n_len PySem.boot_len (pa_cons (pe_dget (hu_of hr) (pv 1) pe_str (fun _ _ => rfl)) pa_nil)))) (pa_cons (pe_callB call_len_seq (by rfl) T.n_len PySem.boot_len (pa_cons (pe_dget (hu_of hr) (pv 1) pe_str (fun _ _ => rfl)) pa_nil)) pa_nil)))))
  (pss_one (ps_ret (pe_call (ok_l_book_picked T) (hr.mono (by decide)) (by rfl) T.g_l_book_picked T.F_l_book_picked.kp T.b_l_book_picked .nil pass0 (pa_cons (pv 1) (pa_cons (pv 2) (pa_cons (pe_call (ok_l_book_names T) (hr.mono (by decide)) (by rfl) T.g_l_book_names T.F_l_book_names.kp T.b_l_book_names .nil pass0 (pa_cons (pv 0) (pa_cons (pe_callB call_len_seq (by rfl) T.n_len PySem.boot_len (pa_cons (pv 2) pa_nil)) pa_nil))) (pa_cons (pe_lc (own := [("at", 3)]) (g := gName 3) (by rfl) sc_l_book_renamed.nd (pi_list (pv 2)) (blkOk_by (own := [("at", 3)]) (by rfl)) (fun _ _ _ _ _ => (pg_name (i := 3) sc_l_book_renamed.nd rfl (Or.inl rfl))) (fun _ _ _ _ _ => pts_nil) (fun _ _ _ _ _ => (pe_ix (ix_tupK K) (pe_dget (hu_of hr) (pv 1) pe_str (fun _ _ => rfl)) (pv 3) (fun _ _ => rfl)))) pa_nil)))))))), ?_⟩
    have hm4 := ok.m4
    have hm1 := ok.m1
    obtain ⟨kvs, tm, tw, tk, td, hO, hl10, v1, v2, hT2, v3, hT3, v4, hT4, v5, tkvs, hTd, tnd, tln, tabs⟩ := id hB
    refine ⟨.ref p, rfl, .ref o, rfl, o, _, rfl, dget hO v2, tm, _, rfl, .inr (SqT.of hT2), ?_⟩
    rw [List.length_map, ok.nm.len]
    refine ⟨m, rfl, RgOk.of_le (by decide) (by omega) (by decide) (by omega), fun lr hlr => ?_⟩
    have d1 := (Dr.start hP (Nat.le_refl _)).new (o := .lst (plV m)) hlr
    have hO1 := d1.st (hP.neD hO) hO
    have hT21 := d1.st (hP.neT hT2) hT2
    refine ⟨.ref o, rfl, o, _, rfl, dget hO1 v2, tm, _, rfl, .inr (SqT.of hT21), ?_⟩
    rw [List.length_map, ok.nm.len]
    refine ⟨p, lr, plV m, m, k + 190, rfl, d1.2.mono (by omega), SqL.of upd_same, hP.ne hlr, by rw [plV_len]; omega, by rw [plV_len]; omega, fun pl ys zs H2 yl pm d2 npl nplp hpl => ?_⟩
    have iny : ∀ y, y ∈ ys → ∃ n : Nat, n < m ∧ y = .int (n : Int) := fun y hy => by
      obtain ⟨i, hi⟩ := List.getElem?_of_mem (pm.mem_iff.mp (List.mem_append_left _ hy))
      obtain ⟨z1, z2⟩ := plV_at hi
      exact ⟨i, z1, z2⟩
    obtain ⟨ns, rfl, hns⟩ := natsOf ys iny
    rw [List.length_map] at yl
    have d12 := d1.trans d2
    refine ⟨.ref o, rfl, .ref pl, rfl, .ref p, rfl, .ref pl, rfl, pl, _, rfl, .inl (SqL.of hpl), ?_⟩
    rw [List.length_map, yl]
    refine ⟨p, m, k + 80, rfl, d2.2.mono (by omega), by omega, fun tn nn H3 hnn d3 n3 ntn h3 => ?_⟩
    have d13 := d12.trans d3
    have hO3 := d13.st (hP.neD hO) hO
    have hT33 := d13.st (hP.neT hT3) hT3
    have hpl3 := d3.st nplp hpl
    refine ⟨.ref pl, rfl, pl, rfl, ⟨_, SqL.of hpl3⟩, fun D hD => ?_⟩
    refine lc_list (K := K) (a := pl) (xs := ns.map fun (n : Nat) => V.int (n : Int)) (fun c H4 => c ≤ m ∧ Same H3 H4 ∧ ∃ zs : List Int, H4 D = some (.lst (zs.map V.int)) ∧ zs.length = c ∧ ∀ z ∈ zs, WOk b z)
      ⟨Nat.zero_le _, same_new hD, [], upd_same, rfl, fun _ h => by cases h⟩ (fun c H4 _ ⟨_, s4, _⟩ => SqL.of (s4 _ _ hpl3)) ?_ ?_
    · rintro c x H4 hx ⟨_, s4, zs, r1, r2, r3⟩
      have hcm : c < m := by
        have := (List.getElem?_eq_some_iff.mp hx).1
        rw [List.length_map] at this
        omega
      obtain ⟨nc, hnc, rfl⟩ := nat_at hx
      obtain ⟨z, y4, y5⟩ := w_at ok.wl ok.w (hns nc hnc)
      refine ⟨rfl, ?_⟩
      refine ⟨.ref o, rfl, o, _, rfl, dget (s4 _ _ hO3) v3, .int nc, rfl, tw, _, (nc : Int), _, rfl, rfl, SqT.of (s4 _ _ hT33), atI_nat y4, ?_⟩
      refine ⟨_, r1, by rw [List.length_map]; exact small1000 (by omega), hcm, fun a o ho => ?_, zs ++ [z], ?_, by rw [List.length_append, r2]; rfl, fun u hu => ?_⟩
      · rw [upd_ne (ne_of_none ho hD)]
        exact s4 _ _ ho
      · rw [upd_same, List.map_append]
        rfl
      · rcases List.mem_append.mp hu with v | v
        · exact r3 u v
        · rw [List.mem_singleton.mp v]
          exact y5
    · rintro H4 ⟨_, s4, us, r1, r2, r3⟩
      rw [List.length_map, yl] at r2
      have hB4 := (hB.dr hP d13).same s4
      refine ⟨o, pl, tn, D, b, m, m, ms, ks, nn, ws, us, Ms, ns, rfl, hB4, ok, s4 _ _ hpl3, yl, hns, hm1, hm4, s4 _ _ h3, hnn, r1, r2, r3, fun q' Ms' H5 s5 nq' bk5 ok5 => ?_⟩
      have d5 : Dr p k H H5 := Dr.mono (d13.sm (s4.trans s5)) (by omega)
      have n3 := s4.free nq'
      exact q q' nn us Ms' H5 d5 (d13.fr n3) (d13.2.ne n3) bk5 ok5
end
end OG
set_option Elab.async false
set_option linter.all false
set_option maxRecDepth 100000
set_option maxHeartbeats 8000000
namespace OG
open PySem PySem.Spec PyProof.Rows L2
theorem ixN_at {n a : Nat} (h : a < n) : ixN n (a : Int) = some a := by
  unfold ixN
  rw [if_pos (Int.natCast_nonneg a), if_pos (Int.ofNat_lt.mpr h)]
  rfl
theorem iteTT {A B : Prop} (h : A) : if true = true then A else B := by
  rw [if_pos rfl]
  exact h
theorem bigW {b r : Int} (hb : ¬ 0 < b) (h0 : r ≠ 0) (h : ¬ decide ((if r < 0 then -r else r) > (10 : Int) ^ (12 : Int).toNat) = true) : WOk b r := by
  have h := of_decide_eq_false (Bool.eq_false_iff.mpr h)
  have e : (10 : Int) ^ (12 : Int).toNat = 1000000000000 := by decide +kernel
  rw [e] at h
  refine ⟨h0, ?_, ?_, fun z => absurd z hb⟩ <;> split at h <;> omega
section
variable {P : Program} {w : World} {K : PySem.W.Frag} {mg : Str → Option Value} {base : Heap}
def spSplit : Sp := fun vs H Q _ => ∃ (p o : Addr) (k : Nat) (b : Int) (m : Nat) (ms ks : List Str) (ws : List Int) (Ms : List (List (List Int))) (ab : Bool), vs = [.ref p, .ref o, .bl ab] ∧ Pot (k + 200) H p ∧ BookAt H o b m ms ws ks Ms ∧ BkOk b m ms ws ks Ms ∧
  ∀ (q : Addr) (m' : Nat) (ms' : List Str) (ws' : List Int) (Ms' : List (List (List Int))) (H' : Hp), Dr p k H H' → BookAt H' q b m' ms' ws' ks Ms' → BkOk b m' ms' ws' ks Ms' → Q (.ref q) H'
theorem ok_l_book_split (T : Txt K mg) : FnOk P w K mg base CX0 4 T.f_l_book_split T.fd_l_book_split ["pot", "own", "is_above"] (spSplit) := by
  refine T.F_l_book_split.ok sc_l_book_split (fun vs H Q E h => ?_) (fun cdv A outer s H vs Q E hr h => ?_)
  · obtain ⟨p, o, k, b, m, ms, ks, ws, Ms, ab, rfl, _⟩ := h
    rfl
  · obtain ⟨p, o, k, b, m, ms, ks, ws, Ms, ab, rfl, hP, hB, ok, q⟩ := h
    refine ⟨_, (pss_cons (ps_par (i := 3) (j := 4) (by rfl) sc_l_book_split.nd rfl rfl (by decide) rfl rfl (pa_cons (pe_callB call_len_seq (by rfl) T.n_len PySem.boot_len (pa_cons (pe_dget (hu_of hr) (pv 1) pe_str (fun _ _ => rfl)) pa_nil)) (pa_cons (pe_dget (hu_of hr) (pv 1) pe_str (fun _ _ => rfl)) pa_nil)) (by rfl))
  (pss_cons (ps_par (i := 5) (j := 6) (by rfl) sc_l_book_split.nd rfl rfl (by decide) rfl rfl (pa_cons (pe_call (ok_l_take T) (hr.mono (by decide)) (by rfl) T.g_l_take T.F_l_take.kp T.b_l_take .nil pass0 (pa_cons (pv 0) (pa_cons (pv 3) pa_nil))) (pa_cons (pe_op op_add pe_int (pe_call (ok_l_take T) (hr.mono (by decide)) (by rfl) T.g_l_take T.F_l_take.kp T.b_l_take .nil pass0 (pa_cons (pv 0) (pa_cons (pe_ifExp (pt_cmpR op_gt (pv 4) pe_int (nomark _)) (pe_op op_sub (pv 4) pe_int) pe_int) pa_nil)))) pa_nil)) (by rfl))
  (pss_cons (ps_set (i := 7) sc_l_book_split.nd rfl (Or.inl rfl) (pe_op op_sub (pe_ix ix_tup (pe_dget (hu_of hr) (pv 1) pe_str (fun _ _ => rfl)) (pv 5) (fun _ _ => rfl)) (pv 6)))
  (pss_cons (ps_set (i := 7) sc_l_book_split.nd rfl (Or.inl rfl) (pe_ifExp (pt_cmpR op_gt (pv 4) pe_int (nomark _)) (pe_op op_mod (pe_callTy call_int1 (by rfl) T.n_int (by decide +kernel) (pa_cons (pv 7) pa_nil)) (pv 4)) (pv 7)))
  (pss_cons (ps_if (PW.pt (pw_or (pt_cmpR op_eq (pv 3) pe_int (nomark _)) (pw_or (pt_cmpR op_eq (pv 7) pe_int (nomark _)) (pw_or (PW.pt (pw_and (pt_truth (pv 2) (by intro _; rfl)) (pw_and1 (pt_cmpR op_lt (pv 7) pe_int (nomark _))))) (pw_or1 (pt_cmpR op_gt (pe_callB call_abs (by rfl) T.n_abs (by decide +kernel) (pa_cons (pv 7) pa_nil)) (pe_op op_powW pe_int pe_int) (nomark _))))))) (pss_one (ps_ret (pv 1))) pss_nil)
  (pss_cons (ps_set (i := 8) sc_l_book_split.nd rfl (Or.inl rfl) (pe_op op_cat (pe_callTy call_list_of (by rfl) T.n_list (by decide +kernel) (pa_cons (pe_dget (hu_of hr) (pv 1) pe_str (fun _ _ => rfl)) pa_nil)) (pe_lst (pa_cons (pv 6) pa_nil))))
  (pss_cons (ps_asg (pv 7) (pg_sub (pv 8) (pv 5) set_list))
  (pss_one (ps_ret (pe_call (ok_l_book_picked T) (hr.mono (by decide)) (by rfl) T.g_l_book_picked T.F_l_book_picked.kp T.b_l_book_picked .nil pass0 (pa_cons (pv 1) (pa_cons (pe_op op_cat (pe_listRg (by rfl) (by rfl) T.n_list (prg_1 (by rfl) T.n_range (pv 3))) (pe_lst (pa_cons (pv 5) pa_nil))) (pa_cons (pe_call (ok_l_book_names T) (hr.mono (by decide)) (by rfl) T.g_l_book_names T.F_l_book_names.kp T.b_l_book_names .nil pass0 (pa_cons (pv 0) (pa_cons (pe_op op_add (pv 3) pe_int) pa_nil))) (pa_cons (pv 8) pa_nil)))))))))))))), ?_⟩
    have hm4 := ok.m4
    have hm1 := ok.m1
    have hb0 := ok.b0
    have hb1 := ok.b1
    have hb97 := ok.b97
    have hwl := ok.wl
    obtain ⟨kvs, tm, tw, tk, td, hO, hl10, v1, v2, hT2, v3, hT3, v4, hT4, v5, tkvs, hTd, tnd, tln, tabs⟩ := id hB
    refine ⟨.ref o, rfl, o, _, rfl, dget hO v2, tm, _, rfl, .inr (SqT.of hT2), ?_⟩
    rw [List.length_map, ok.nm.len]
    refine ⟨.ref o, rfl, o, _, rfl, dget hO v1, ?_⟩
    refine ⟨_, _, rfl, ?_⟩
    refine ⟨.ref p, rfl, .int m, rfl, p, m, k + 199, rfl, hP, by omega, by omega, fun ai H1 a0 a1 d1 => ?_⟩
    obtain ⟨a, rfl⟩ : ∃ a : Nat, ai = (a : Int) := ⟨ai.toNat, by omega⟩
    have ham : a < m := by omega
    obtain ⟨wv, hwv, wok⟩ := w_at ok.wl ok.w ham
    refine ⟨.ref p, rfl, .int b, rfl, _, _, rfl, rfl, _, rfl, ite2 (fun hb => ?_) (fun hb => ?_)⟩
    · have hb : 0 < b := of_decide_eq_true hb
      refine ⟨.int b, rfl, _, _, rfl, rfl, p, b - 1, k + 198, rfl, d1.2, by omega, by omega, fun t H2 t0 t1 d2 => ?_⟩
      have d2 := d1.trans d2
      refine ⟨_, _, rfl, rfl, .int a, .int (1 + t), rfl, ?_⟩
      obtain ⟨part, hpart⟩ : ∃ part : Int, part = 1 + t := ⟨_, rfl⟩
      rw [← hpart]
      have pok : WOk b part := ⟨by omega, by omega, by omega, fun _ => by omega⟩
      refine ⟨.ref o, rfl, o, _, rfl, dget (d2.st (hP.neD hO) hO) v3, .int a, rfl, tw, _, (a : Int), _, rfl, rfl, SqT.of (d2.st (hP.neT hT3) hT3), atI_nat hwv, .int part, rfl, _, _, rfl, rfl, ?_⟩
      refine ⟨.int b, rfl, _, _, rfl, rfl, _, rfl, ite2 (fun _ => ?_) (fun z => absurd (decide_eq_true hb) z)⟩
      refine ⟨_, rfl, .inl ⟨_, rfl, ?_⟩⟩
      refine ⟨.int b, rfl, _, _, rfl, rfl, hb, ?_⟩
      have r0 := Int.emod_nonneg (wv - part) (show b ≠ 0 by omega)
      have r1 := Int.emod_lt_of_pos (wv - part) hb
      dsimp only
      generalize (wv - part) % b = r at *
      refine ⟨.int m, rfl, rfl, _, rfl, ite2 (fun _ => (if_pos rfl).mpr ⟨_, rfl, q o m ms ws Ms H2 (d2.mono (by omega)) (hB.dr hP d2) ok⟩) (fun hmn => ?_)⟩
      refine ⟨.int r, rfl, rfl, _, rfl, ite2 (fun _ => (if_pos rfl).mpr ⟨_, rfl, q o m ms ws Ms H2 (d2.mono (by omega)) (hB.dr hP d2) ok⟩) (fun hr0 => ?_)⟩
      have hr0 : r ≠ 0 := fun z => hr0 (decide_eq_true (congrArg V.int z))
      refine ⟨.bl ab, rfl, ab, rfl, ite2 (fun _ => ?_) (fun _ => iteF ?_)⟩
      · refine ⟨.int r, rfl, _, _, rfl, rfl, _, rfl, ite2 (fun _ => (if_pos rfl).mpr ⟨_, rfl, q o m ms ws Ms H2 (d2.mono (by omega)) (hB.dr hP d2) ok⟩) (fun _ => ?_)⟩
        refine ⟨.int r, rfl, r, rfl, _, _, rfl, rfl, pow_c (by decide), _, _, rfl, rfl, _, rfl, ite2 (fun _ => ⟨_, rfl, q o m ms ws Ms H2 (d2.mono (by omega)) (hB.dr hP d2) ok⟩) (fun hbig => ?_)⟩
        have hO2 := d2.st (hP.neD hO) hO
        have hT32 := d2.st (hP.neT hT3) hT3
        refine ⟨.ref o, rfl, o, _, rfl, dget hO2 v3, tw, _, rfl, .inr (SqT.of hT32), fun l1 hl1 => ?_⟩
        refine ⟨.int part, rfl, (by show 1 ≤ sizeLine; decide), fun l2 hl2 => ?_⟩
        have n12 : l1 ≠ l2 := ne_of_none upd_same hl2
        refine ⟨l1, l2, _, _, rfl, rfl, by rw [upd_ne n12, upd_same], upd_same, by rw [List.length_map]; exact Nat.le_trans (show ws.length + 1 ≤ 1000 by omega) (by decide), fun wa hwa => ?_⟩
        have d5 := ((d2.new hl1).new hl2).new (o := .lst (ws.map V.int ++ [V.int part])) hwa
        have nwp : wa ≠ p := ((d2.new hl1).new hl2).2.ne hwa
        have fwa := ((d2.new hl1).new hl2).fr hwa
        refine ⟨.int r, rfl, .ref wa, rfl, .int a, rfl, wa, _, (a : Int), a, rfl, rfl, upd_same, ixN_at (by rw [List.length_append, List.length_map]; omega), ?_⟩
        have d6 := d5.mut (o := .lst ((ws.map V.int ++ [V.int part]).set a (V.int r))) fwa nwp
        have hwa6 : (upd (upd (upd (upd H2 l1 (.lst (ws.map V.int))) l2 (.lst [V.int part])) wa (.lst (ws.map V.int ++ [V.int part]))) wa (.lst ((ws.map V.int ++ [V.int part]).set a (V.int r)))) wa = some (.lst (((ws ++ [part]).set a r).map V.int)) := by
          rw [upd_same, List.map_set, List.map_append]
          rfl
        generalize upd (upd (upd (upd H2 l1 (.lst (ws.map V.int))) l2 (.lst [V.int part])) wa (.lst (ws.map V.int ++ [V.int part]))) wa (.lst ((ws.map V.int ++ [V.int part]).set a (V.int r))) = H6 at *
        refine ⟨.ref o, rfl, .int m, rfl, m, rfl, RgOk.of_le (by decide) (by omega) (by decide) (by omega), fun l3 hl3 => ?_⟩
        refine ⟨.int a, rfl, (by show 1 ≤ sizeLine; decide), fun l4 hl4 => ?_⟩
        have n34 : l3 ≠ l4 := ne_of_none upd_same hl4
        refine ⟨l3, l4, plV m, _, rfl, rfl, by rw [upd_ne n34, upd_same]; rfl, upd_same, by rw [plV_len]; exact Nat.le_trans (show m + 1 ≤ 1000 by omega) (by decide), fun pl hpl => ?_⟩
        have e6 := (((Dr.start d6.2 (Nat.le_refl _)).new (o := .lst (plV m)) hl3).new (o := .lst [V.int (a : Int)]) hl4).new (o := .lst (plV m ++ [V.int (a : Int)])) hpl
        have npl : pl ≠ p := (((Dr.start d6.2 (Nat.le_refl _)).new (o := .lst (plV m)) hl3).new (o := .lst [V.int (a : Int)]) hl4).2.ne hpl
        have hpl7 : (upd (upd (upd H6 l3 (.lst (plV m))) l4 (.lst [V.int (a : Int)])) pl (.lst (plV m ++ [V.int (a : Int)]))) pl = some (.lst (plV m ++ [V.int (a : Int)])) := upd_same
        refine ⟨.ref p, rfl, .int m, rfl, _, _, rfl, rfl, p, m + 1, k + 60, rfl, e6.2.mono (by omega), by omega, fun tn nn H8 hnn d8 n8 ntn h8 => ?_⟩
        have e8 := e6.trans d8
        have d18 := d6.trans e8
        obtain ⟨ns, ens, hns⟩ := natsOf (m := m) (plV m ++ [V.int (a : Int)]) fun y hy => by
          rcases List.mem_append.mp hy with v | v
          · obtain ⟨i, hi⟩ := List.getElem?_of_mem v
            obtain ⟨z1, z2⟩ := plV_at hi
            exact ⟨i, z1, z2⟩
          · exact ⟨a, ham, List.mem_singleton.mp v⟩
        have lns : ns.length = m + 1 := by
          have e := congrArg List.length ens
          rw [List.length_append, plV_len, List.length_map] at e
          exact e.symm
        have m4' : m + 1 ≤ 4 := by
          have : ¬ (m : Int) = 4 := fun z => hmn (decide_eq_true (congrArg V.int z))
          omega
        have hpl8 : H8 pl = some (.lst (ns.map fun (n : Nat) => V.int (n : Int))) := by
          rw [← ens]
          exact d8.st npl hpl7
        have hB8 := hB.dr hP d18
        refine ⟨.ref wa, rfl, o, pl, tn, wa, b, m, m + 1, ms, ks, nn, ws, (ws ++ [part]).set a r, Ms, ns, rfl, hB8, ok, hpl8, lns, hns, by omega, m4', h8, hnn, e8.st nwp hwa6, by rw [List.length_set, List.length_append, hwl]; rfl, fun z hz => ?_, fun q' Ms' H9 s9 nq' bk9 ok9 => ?_⟩
        · rcases List.mem_or_eq_of_mem_set hz with v | v
          · rcases List.mem_append.mp v with v | v
            · exact ok.w z v
            · rw [List.mem_singleton.mp v]
              exact pok
          · rw [v]
            exact ⟨hr0, by omega, by omega, fun _ => by omega⟩
        · exact q q' (m + 1) nn _ Ms' H9 (Dr.mono (d18.sm s9) (by omega)) bk9 ok9
      · refine ⟨.int r, rfl, r, rfl, _, _, rfl, rfl, pow_c (by decide), _, _, rfl, rfl, _, rfl, ite2 (fun _ => ⟨_, rfl, q o m ms ws Ms H2 (d2.mono (by omega)) (hB.dr hP d2) ok⟩) (fun hbig => ?_)⟩
        have hO2 := d2.st (hP.neD hO) hO
        have hT32 := d2.st (hP.neT hT3) hT3
        refine ⟨.ref o, rfl, o, _, rfl, dget hO2 v3, tw, _, rfl, .inr (SqT.of hT32), fun l1 hl1 => ?_⟩
        refine ⟨.int part, rfl, (by show 1 ≤ sizeLine; decide), fun l2 hl2 => ?_⟩
        have n12 : l1 ≠ l2 := ne_of_none upd_same hl2
        refine ⟨l1, l2, _, _, rfl, rfl, by rw [upd_ne n12, upd_same], upd_same, by rw [List.length_map]; exact Nat.le_trans (show ws.length + 1 ≤ 1000 by omega) (by decide), fun wa hwa => ?_⟩
        have d5 := ((d2.new hl1).new hl2).new (o := .lst (ws.map V.int ++ [V.int part])) hwa
        have nwp : wa ≠ p := ((d2.new hl1).new hl2).2.ne hwa
        have fwa := ((d2.new hl1).new hl2).fr hwa
        refine ⟨.int r, rfl, .ref wa, rfl, .int a, rfl, wa, _, (a : Int), a, rfl, rfl, upd_same, ixN_at (by rw [List.length_append, List.length_map]; omega), ?_⟩
        have d6 := d5.mut (o := .lst ((ws.map V.int ++ [V.int part]).set a (V.int r))) fwa nwp
        have hwa6 : (upd (upd (upd (upd H2 l1 (.lst (ws.map V.int))) l2 (.lst [V.int part])) wa (.lst (ws.map V.int ++ [V.int part]))) wa (.lst ((ws.map V.int ++ [V.int part]).set a (V.int r)))) wa = some (.lst (((ws ++ [part]).set a r).map V.int)) := by
          rw [upd_same, List.map_set, List.map_append]
          rfl
        generalize upd (upd (upd (upd H2 l1 (.lst (ws.map V.int))) l2 (.lst [V.int part])) wa (.lst (ws.map V.int ++ [V.int part]))) wa (.lst ((ws.map V.int ++ [V.int part]).set a (V.int r))) = H6 at *
        refine ⟨.ref o, rfl, .int m, rfl, m, rfl, RgOk.of_le (by decide) (by omega) (by decide) (by omega), fun l3 hl3 => ?_⟩
        refine ⟨.int a, rfl, (by show 1 ≤ sizeLine; decide), fun l4 hl4 => ?_⟩
        have n34 : l3 ≠ l4 := ne_of_none upd_same hl4
        refine ⟨l3, l4, plV m, _, rfl, rfl, by rw [upd_ne n34, upd_same]; rfl, upd_same, by rw [plV_len]; exact Nat.le_trans (show m + 1 ≤ 1000 by omega) (by decide), fun pl hpl => ?_⟩
        have e6 := (((Dr.start d6.2 (Nat.le_refl _)).new (o := .lst (plV m)) hl3).new (o := .lst [V.int (a : Int)]) hl4).new (o := .lst (plV m ++ [V.int (a : Int)])) hpl
        have npl : pl ≠ p := (((Dr.start d6.2 (Nat.le_refl _)).new (o := .lst (plV m)) hl3).new (o := .lst [V.int (a : Int)]) hl4).2.ne hpl
        have hpl7 : (upd (upd (upd H6 l3 (.lst (plV m))) l4 (.lst [V.int (a : Int)])) pl (.lst (plV m ++ [V.int (a : Int)]))) pl = some (.lst (plV m ++ [V.int (a : Int)])) := upd_same
        refine ⟨.ref p, rfl, .int m, rfl, _, _, rfl, rfl, p, m + 1, k + 60, rfl, e6.2.mono (by omega), by omega, fun tn nn H8 hnn d8 n8 ntn h8 => ?_⟩
        have e8 := e6.trans d8
        have d18 := d6.trans e8
        obtain ⟨ns, ens, hns⟩ := natsOf (m := m) (plV m ++ [V.int (a : Int)]) fun y hy => by
          rcases List.mem_append.mp hy with v | v
          · obtain ⟨i, hi⟩ := List.getElem?_of_mem v
            obtain ⟨z1, z2⟩ := plV_at hi
            exact ⟨i, z1, z2⟩
          · exact ⟨a, ham, List.mem_singleton.mp v⟩
        have lns : ns.length = m + 1 := by
          have e := congrArg List.length ens
          rw [List.length_append, plV_len, List.length_map] at e
          exact e.symm
        have m4' : m + 1 ≤ 4 := by
          have : ¬ (m : Int) = 4 := fun z => hmn (decide_eq_true (congrArg V.int z))
          omega
        have hpl8 : H8 pl = some (.lst (ns.map fun (n : Nat) => V.int (n : Int))) := by
          rw [← ens]
          exact d8.st npl hpl7
        have hB8 := hB.dr hP d18
        refine ⟨.ref wa, rfl, o, pl, tn, wa, b, m, m + 1, ms, ks, nn, ws, (ws ++ [part]).set a r, Ms, ns, rfl, hB8, ok, hpl8, lns, hns, by omega, m4', h8, hnn, e8.st nwp hwa6, by rw [List.length_set, List.length_append, hwl]; rfl, fun z hz => ?_, fun q' Ms' H9 s9 nq' bk9 ok9 => ?_⟩
        · rcases List.mem_or_eq_of_mem_set hz with v | v
          · rcases List.mem_append.mp v with v | v
            · exact ok.w z v
            · rw [List.mem_singleton.mp v]
              exact pok
          · rw [v]
            exact ⟨hr0, by omega, by omega, fun _ => by omega⟩
        · exact q q' (m + 1) nn _ Ms' H9 (Dr.mono (d18.sm s9) (by omega)) bk9 ok9
    · have hb : ¬ 0 < b := of_decide_eq_false (Bool.eq_false_iff.mpr hb)
      refine ⟨p, 3, k + 198, rfl, d1.2, by omega, by omega, fun t H2 t0 t1 d2 => ?_⟩
      have d2 := d1.trans d2
      refine ⟨_, _, rfl, rfl, .int a, .int (1 + t), rfl, ?_⟩
      obtain ⟨part, hpart⟩ : ∃ part : Int, part = 1 + t := ⟨_, rfl⟩
      rw [← hpart]
      have pok : WOk b part := ⟨by omega, by omega, by omega, fun z => absurd z hb⟩
      refine ⟨.ref o, rfl, o, _, rfl, dget (d2.st (hP.neD hO) hO) v3, .int a, rfl, tw, _, (a : Int), _, rfl, rfl, SqT.of (d2.st (hP.neT hT3) hT3), atI_nat hwv, .int part, rfl, _, _, rfl, rfl, ?_⟩
      refine ⟨.int b, rfl, _, _, rfl, rfl, _, rfl, ite2 (fun z => absurd (of_decide_eq_true z) hb) (fun _ => ?_)⟩
      refine ⟨_, rfl, ?_⟩
      dsimp only
      generalize wv - part = r at *
      refine ⟨.int m, rfl, rfl, _, rfl, ite2 (fun _ => (if_pos rfl).mpr ⟨_, rfl, q o m ms ws Ms H2 (d2.mono (by omega)) (hB.dr hP d2) ok⟩) (fun hmn => ?_)⟩
      refine ⟨.int r, rfl, rfl, _, rfl, ite2 (fun _ => (if_pos rfl).mpr ⟨_, rfl, q o m ms ws Ms H2 (d2.mono (by omega)) (hB.dr hP d2) ok⟩) (fun hr0 => ?_)⟩
      have hr0 : r ≠ 0 := fun z => hr0 (decide_eq_true (congrArg V.int z))
      refine ⟨.bl ab, rfl, ab, rfl, ite2 (fun _ => ?_) (fun _ => iteF ?_)⟩
      · refine ⟨.int r, rfl, _, _, rfl, rfl, _, rfl, ite2 (fun _ => (if_pos rfl).mpr ⟨_, rfl, q o m ms ws Ms H2 (d2.mono (by omega)) (hB.dr hP d2) ok⟩) (fun _ => ?_)⟩
        refine ⟨.int r, rfl, r, rfl, _, _, rfl, rfl, pow_c (by decide), _, _, rfl, rfl, _, rfl, ite2 (fun _ => ⟨_, rfl, q o m ms ws Ms H2 (d2.mono (by omega)) (hB.dr hP d2) ok⟩) (fun hbig => ?_)⟩
        have hO2 := d2.st (hP.neD hO) hO
        have hT32 := d2.st (hP.neT hT3) hT3
        refine ⟨.ref o, rfl, o, _, rfl, dget hO2 v3, tw, _, rfl, .inr (SqT.of hT32), fun l1 hl1 => ?_⟩
        refine ⟨.int part, rfl, (by show 1 ≤ sizeLine; decide), fun l2 hl2 => ?_⟩
        have n12 : l1 ≠ l2 := ne_of_none upd_same hl2
        refine ⟨l1, l2, _, _, rfl, rfl, by rw [upd_ne n12, upd_same], upd_same, by rw [List.length_map]; exact Nat.le_trans (show ws.length + 1 ≤ 1000 by omega) (by decide), fun wa hwa => ?_⟩
        have d5 := ((d2.new hl1).new hl2).new (o := .lst (ws.map V.int ++ [V.int part])) hwa
        have nwp : wa ≠ p := ((d2.new hl1).new hl2).2.ne hwa
        have fwa := ((d2.new hl1).new hl2).fr hwa
        refine ⟨.int r, rfl, .ref wa, rfl, .int a, rfl, wa, _, (a : Int), a, rfl, rfl, upd_same, ixN_at (by rw [List.length_append, List.length_map]; omega), ?_⟩
        have d6 := d5.mut (o := .lst ((ws.map V.int ++ [V.int part]).set a (V.int r))) fwa nwp
        have hwa6 : (upd (upd (upd (upd H2 l1 (.lst (ws.map V.int))) l2 (.lst [V.int part])) wa (.lst (ws.map V.int ++ [V.int part]))) wa (.lst ((ws.map V.int ++ [V.int part]).set a (V.int r)))) wa = some (.lst (((ws ++ [part]).set a r).map V.int)) := by
          rw [upd_same, List.map_set, List.map_append]
          rfl
        generalize upd (upd (upd (upd H2 l1 (.lst (ws.map V.int))) l2 (.lst [V.int part])) wa (.lst (ws.map V.int ++ [V.int part]))) wa (.lst ((ws.map V.int ++ [V.int part]).set a (V.int r))) = H6 at *
        refine ⟨.ref o, rfl, .int m, rfl, m, rfl, RgOk.of_le (by decide) (by omega) (by decide) (by omega), fun l3 hl3 => ?_⟩
        refine ⟨.int a, rfl, (by show 1 ≤ sizeLine; decide), fun l4 hl4 => ?_⟩
        have n34 : l3 ≠ l4 := ne_of_none upd_same hl4
        refine ⟨l3, l4, plV m, _, rfl, rfl, by rw [upd_ne n34, upd_same]; rfl, upd_same, by rw [plV_len]; exact Nat.le_trans (show m + 1 ≤ 1000 by omega) (by decide), fun pl hpl => ?_⟩
        have e6 := (((Dr.start d6.2 (Nat.le_refl _)).new (o := .lst (plV m)) hl3).new (o := .lst [V.int (a : Int)]) hl4).new (o := .lst (plV m ++ [V.int (a : Int)])) hpl
        have npl : pl ≠ p := (((Dr.start d6.2 (Nat.le_refl _)).new (o := .lst (plV m)) hl3).new (o := .lst [V.int (a : Int)]) hl4).2.ne hpl
        have hpl7 : (upd (upd (upd H6 l3 (.lst (plV m))) l4 (.lst [V.int (a : Int)])) pl (.lst (plV m ++ [V.int (a : Int)]))) pl = some (.lst (plV m ++ [V.int (a : Int)])) := upd_same
        refine ⟨.ref p, rfl, .int m, rfl, _, _, rfl, rfl, p, m + 1, k + 60, rfl, e6.2.mono (by omega), by omega, fun tn nn H8 hnn d8 n8 ntn h8 => ?_⟩
        have e8 := e6.trans d8
        have d18 := d6.trans e8
        obtain ⟨ns, ens, hns⟩ := natsOf (m := m) (plV m ++ [V.int (a : Int)]) fun y hy => by
          rcases List.mem_append.mp hy with v | v
          · obtain ⟨i, hi⟩ := List.getElem?_of_mem v
            obtain ⟨z1, z2⟩ := plV_at hi
            exact ⟨i, z1, z2⟩
          · exact ⟨a, ham, List.mem_singleton.mp v⟩
        have lns : ns.length = m + 1 := by
          have e := congrArg List.length ens
          rw [List.length_append, plV_len, List.length_map] at e
          exact e.symm
        have m4' : m + 1 ≤ 4 := by
          have : ¬ (m : Int) = 4 := fun z => hmn (decide_eq_true (congrArg V.int z))
          omega
        have hpl8 : H8 pl = some (.lst (ns.map fun (n : Nat) => V.int (n : Int))) := by
          rw [← ens]
          exact d8.st npl hpl7
        have hB8 := hB.dr hP d18
        refine ⟨.ref wa, rfl, o, pl, tn, wa, b, m, m + 1, ms, ks, nn, ws, (ws ++ [part]).set a r, Ms, ns, rfl, hB8, ok, hpl8, lns, hns, by omega, m4', h8, hnn, e8.st nwp hwa6, by rw [List.length_set, List.length_append, hwl]; rfl, fun z hz => ?_, fun q' Ms' H9 s9 nq' bk9 ok9 => ?_⟩
        · rcases List.mem_or_eq_of_mem_set hz with v | v
          · rcases List.mem_append.mp v with v | v
            · exact ok.w z v
            · rw [List.mem_singleton.mp v]
              exact pok
          · rw [v]
            exact bigW hb hr0 hbig
        · exact q q' (m + 1) nn _ Ms' H9 (Dr.mono (d18.sm s9) (by omega)) bk9 ok9
      · refine ⟨.int r, rfl, r, rfl, _, _, rfl, rfl, pow_c (by decide), _, _, rfl, rfl, _, rfl, ite2 (fun _ => ⟨_, rfl, q o m ms ws Ms H2 (d2.mono (by omega)) (hB.dr hP d2) ok⟩) (fun hbig => ?_)⟩
        have hO2 := d2.st (hP.neD hO) hO
        have hT32 := d2.st (hP.neT hT3) hT3
        refine ⟨.ref o, rfl, o, _, rfl, dget hO2 v3, tw, _, rfl, .inr (SqT.of hT32), fun l1 hl1 => ?_⟩
        refine ⟨.int part, rfl, (by show 1 ≤ sizeLine; decide), fun l2 hl2 => ?_⟩
        have n12 : l1 ≠ l2 := ne_of_none upd_same hl2
        refine ⟨l1, l2, _, _, rfl, rfl, by rw [upd_ne n12, upd_same], upd_same, by rw [List.length_map]; exact Nat.le_trans (show ws.length + 1 ≤ 1000 by omega) (by decide), fun wa hwa => ?_⟩
        have d5 := ((d2.new hl1).new hl2).new (o := .lst (ws.map V.int ++ [V.int part])) hwa
        have nwp : wa ≠ p := ((d2.new hl1).new hl2).2.ne hwa
        have fwa := ((d2.new hl1).new hl2).fr hwa
        refine ⟨.int r, rfl, .ref wa, rfl, .int a, rfl, wa, _, (a : Int), a, rfl, rfl, upd_same, ixN_at (by rw [List.length_append, List.length_map]; omega), ?_⟩
        have d6 := d5.mut (o := .lst ((ws.map V.int ++ [V.int part]).set a (V.int r))) fwa nwp
        have hwa6 : (upd (upd (upd (upd H2 l1 (.lst (ws.map V.int))) l2 (.lst [V.int part])) wa (.lst (ws.map V.int ++ [V.int part]))) wa (.lst ((ws.map V.int ++ [V.int part]).set a (V.int r)))) wa = some (.lst (((ws ++ [part]).set a r).map V.int)) := by
          rw [upd_same, List.map_set, List.map_append]
          rfl
        generalize upd (upd (upd (upd H2 l1 (.lst (ws.map V.int))) l2 (.lst [V.int part])) wa (.lst (ws.map V.int ++ [V.int part]))) wa (.lst ((ws.map V.int ++ [V.int part]).set a (V.int r))) = H6 at *
        refine ⟨.ref o, rfl, .int m, rfl, m, rfl, RgOk.of_le (by decide) (by omega) (by decide) (by omega), fun l3 hl3 => ?_⟩
        refine ⟨.int a, rfl, (by show 1 ≤ sizeLine; decide), fun l4 hl4 => ?_⟩
        have n34 : l3 ≠ l4 := ne_of_none upd_same hl4
        refine ⟨l3, l4, plV m, _, rfl, rfl, by rw [upd_ne n34, upd_same]; rfl, upd_same, by rw [plV_len]; exact Nat.le_trans (show m + 1 ≤ 1000 by omega) (by decide), fun pl hpl => ?_⟩
        have e6 := (((Dr.start d6.2 (Nat.le_refl _)).new (o := .lst (plV m)) hl3).new (o := .lst [V.int (a : Int)]) hl4).new (o := .lst (plV m ++ [V.int (a : Int)])) hpl
        have npl : pl ≠ p := (((Dr.start d6.2 (Nat.le_refl _)).new (o := .lst (plV m)) hl3).new (o := .lst [V.int (a : Int)]) hl4).2.ne hpl
        have hpl7 : (upd (upd (upd H6 l3 (.lst (plV m))) l4 (.lst [V.int (a : Int)])) pl (.lst (plV m ++ [V.int (a : Int)]))) pl = some (.lst (plV m ++ [V.int (a : Int)])) := upd_same
        refine ⟨.ref p, rfl, .int m, rfl, _, _, rfl, rfl, p, m + 1, k + 60, rfl, e6.2.mono (by omega), by omega, fun tn nn H8 hnn d8 n8 ntn h8 => ?_⟩
        have e8 := e6.trans d8
        have d18 := d6.trans e8
        obtain ⟨ns, ens, hns⟩ := natsOf (m := m) (plV m ++ [V.int (a : Int)]) fun y hy => by
          rcases List.mem_append.mp hy with v | v
          · obtain ⟨i, hi⟩ := List.getElem?_of_mem v
            obtain ⟨z1, z2⟩ := plV_at hi
            exact ⟨i, z1, z2⟩
          · exact ⟨a, ham, List.mem_singleton.mp v⟩
        have lns : ns.length = m + 1 := by
          have e := congrArg List.length ens
          rw [List.length_append, plV_len, List.length_map] at e
          exact e.symm
        have m4' : m + 1 ≤ 4 := by
          have : ¬ (m : Int) = 4 := fun z => hmn (decide_eq_true (congrArg V.int z))
          omega
        have hpl8 : H8 pl = some (.lst (ns.map fun (n : Nat) => V.int (n : Int))) := by
          rw [← ens]
          exact d8.st npl hpl7
        have hB8 := hB.dr hP d18
        refine ⟨.ref wa, rfl, o, pl, tn, wa, b, m, m + 1, ms, ks, nn, ws, (ws ++ [part]).set a r, Ms, ns, rfl, hB8, ok, hpl8, lns, hns, by omega, m4', h8, hnn, e8.st nwp hwa6, by rw [List.length_set, List.length_append, hwl]; rfl, fun z hz => ?_, fun q' Ms' H9 s9 nq' bk9 ok9 => ?_⟩
        · rcases List.mem_or_eq_of_mem_set hz with v | v
          · rcases List.mem_append.mp v with v | v
            · exact ok.w z v
            · rw [List.mem_singleton.mp v]
              exact pok
          · rw [v]
            exact bigW hb hr0 hbig
        · exact q q' (m + 1) nn _ Ms' H9 (Dr.mono (d18.sm s9) (by omega)) bk9 ok9
end
end OG
set_option Elab.async false
set_option linter.all false
set_option maxRecDepth 100000
set_option maxHeartbeats 8000000
namespace OG
open PySem PySem.Spec PyProof.Rows L2
theorem ref_at {rs : List Addr} {i : Nat} {x : V} (h : (rs.map V.ref)[i]? = some x) : ∃ r, rs[i]? = some r ∧ x = .ref r := by
  rw [List.getElem?_map] at h
  cases e : rs[i]? with
  | none =>
    rw [e] at h
    cases h
  | some r =>
    rw [e] at h
    exact ⟨r, rfl, (Option.some.inj h).symm⟩
theorem paired_imp {α β : Type} {R S : α → β → Prop} (f : ∀ x y, R x y → S x y) : ∀ {xs : List α} {ys : List β}, Paired R xs ys → Paired S xs ys
  | _, _, .nil => .nil
  | _, _, .cons r t => .cons (f _ _ r) (paired_imp f t)
def rListOf (K : PySem.W.Frag) : List V → Hp → VK → Prop := fun xs H Q => ∃ p ys, xs = [.ref p] ∧ (SqL K H p ys ∨ SqT K H p ys) ∧ ∀ l, H l = none → Q (.ref l) (upd H l (.lst ys))
theorem call_list_ofK {X : Cx} (K : PySem.W.Frag) (hK : X.K = K := by rfl) : CallR X (.type "list") (rListOf K) := hK ▸ call_list_of
def Rws (b : Int) (m : Nat) (H : Hp) (ls : List Addr) (M : List (List Int)) : Prop := M.length = m ∧ ls.length = m ∧
  (∀ (j : Nat) (l : Addr), ls[j]? = some l → ∃ row : List Int, M[j]? = some row ∧ H l = some (.lst (row.map V.int))) ∧ ∀ row ∈ M, row.length = m ∧ ∀ z ∈ row, TOk b z
theorem Rws.put {b y : Int} {m a c : Nat} {H : Hp} {ls : List Addr} {M : List (List Int)} {la : Addr} {row : List Int} (h : Rws b m H ls M) (nd : ls.Nodup) (ha : ls[a]? = some la) (hr : M[a]? = some row) (hy : TOk b y) : Rws b m (upd H la (.lst ((row.map V.int).set c (V.int y)))) ls (M.set a (row.set c y)) := by
  obtain ⟨h1, h2, h3, h4⟩ := h
  refine ⟨by rw [List.length_set]; exact h1, h2, fun j l hl => ?_, fun r hm => ?_⟩
  · by_cases e : j = a
    · subst e
      rw [ha] at hl
      have e := Option.some.inj hl
      subst e
      refine ⟨row.set c y, ?_, ?_⟩
      · rw [List.getElem?_set_self (List.getElem?_eq_some_iff.mp hr).1]
      · rw [upd_same, List.map_set]
    · obtain ⟨r, e1, e2⟩ := h3 j l hl
      have n : l ≠ la := fun z => by
        rw [z, ← ha] at hl
        exact e ((List.getElem?_inj (List.getElem?_eq_some_iff.mp (hl.trans ha)).1 nd).mp hl)
      exact ⟨r, by rw [List.getElem?_set_ne (Ne.symm e)]; exact e1, by rw [upd_ne n]; exact e2⟩
  · rcases List.mem_or_eq_of_mem_set hm with v | v
    · exact h4 r v
    · rw [v]
      obtain ⟨f1, f2⟩ := h4 row (List.mem_of_getElem? hr)
      refine ⟨by rw [List.length_set]; exact f1, fun z hz => ?_⟩
      rcases List.mem_or_eq_of_mem_set hz with u | u
      · exact f2 z u
      · rw [u]
        exact hy
theorem bigT {b r : Int} (hb : ¬ 0 < b) (h : decide ((if r < 0 then -r else r) ≤ (10 : Int) ^ (12 : Int).toNat) = true) : TOk b r := by
  have h := of_decide_eq_true h
  have e : (10 : Int) ^ (12 : Int).toNat = 1000000000000 := by decide +kernel
  rw [e] at h
  refine ⟨?_, ?_, fun z => absurd z hb⟩ <;> split at h <;> omega
section
variable {P : Program} {w : World} {K : PySem.W.Frag} {mg : Str → Option Value} {base : Heap}
def spChg : Sp := fun vs H Q _ => ∃ (p o : Addr) (k : Nat) (b : Int) (m : Nat) (ms ks : List Str) (ws : List Int) (Ms : List (List (List Int))), vs = [.ref p, .ref o] ∧ Pot (k + 200) H p ∧ BookAt H o b m ms ws ks Ms ∧ BkOk b m ms ws ks Ms ∧
  ∀ (q : Addr) (ws' : List Int) (Ms' : List (List (List Int))) (H' : Hp), Dr p k H H' → BookAt H' q b m ms ws' ks Ms' → BkOk b m ms ws' ks Ms' → Q (.ref q) H'
theorem ok_l_book_changed (T : Txt K mg) : FnOk P w K mg base CX0 4 T.f_l_book_changed T.fd_l_book_changed ["pot", "own"] (spChg) := by
  refine T.F_l_book_changed.ok sc_l_book_changed (fun vs H Q E h => ?_) (fun cdv A outer s H vs Q E hr h => ?_)
  · obtain ⟨p, o, k, b, m, ms, ks, ws, Ms, rfl, _⟩ := h
    rfl
  · obtain ⟨p, o, k, b, m, ms, ks, ws, Ms, rfl, hP, hB, ok, q⟩ := h
    refine ⟨_, (pss_cons (ps_par (i := 2) (j := 3) (by rfl) sc_l_book_changed.nd rfl rfl (by decide) rfl rfl (pa_cons (pe_callB call_len_seq (by rfl) T.n_len PySem.boot_len (pa_cons (pe_dget (hu_of hr) (pv 1) pe_str (fun _ _ => rfl)) pa_nil)) (pa_cons (pe_dget (hu_of hr) (pv 1) pe_str (fun _ _ => rfl)) pa_nil)) (by rfl))
  (pss_cons (ps_par3 (i := 4) (j := 5) (l := 6) (by rfl) sc_l_book_changed.nd rfl rfl rfl (by decide) (by decide) (by decide) rfl rfl rfl (pa_cons (pe_callTy call_list_of (by rfl) T.n_list (by decide +kernel) (pa_cons (pe_dget (hu_of hr) (pv 1) pe_str (fun _ _ => rfl)) pa_nil)) (pa_cons (pe_callTy (call_dictP rfl) (by rfl) T.n_dict (by decide +kernel) (pa_cons (LiI.pe_listItems rfl (pe_dget (hu_of hr) (pv 1) pe_str (fun _ _ => rfl)) (by rfl) T.n_list (by decide +kernel)) pa_nil)) (pa_cons (pe_call (ok_l_of T) (hr.mono (by decide)) (by rfl) T.g_l_of T.F_l_of.kp T.b_l_of .nil pass0 (pa_cons (pv 0) (pa_cons (pe_lst (pa_cons pe_int (pa_cons (pe_un un_neg pe_int) (pa_cons pe_int pa_nil)))) pa_nil))) pa_nil))) (by rfl))
  (pss_cons (ps_if (pt_cmpR op_eq (pe_call (ok_l_take T) (hr.mono (by decide)) (by rfl) T.g_l_take T.F_l_take.kp T.b_l_take .nil pass0 (pa_cons (pv 0) (pa_cons pe_int pa_nil))) pe_int (nomark _)) (pss_cons (ps_set (i := 7) sc_l_book_changed.nd rfl (Or.inl rfl) (pe_call (ok_l_take T) (hr.mono (by decide)) (by rfl) T.g_l_take T.F_l_take.kp T.b_l_take .nil pass0 (pa_cons (pv 0) (pa_cons (pv 2) pa_nil))))
  (pss_cons (ps_set (i := 8) sc_l_book_changed.nd rfl (Or.inl rfl) (pe_ifExp (pt_cmpR op_gt (pv 3) pe_int (nomark _)) (pe_op op_mod (pe_callTy call_int1 (by rfl) T.n_int (by decide +kernel) (pa_cons (pe_op op_add (pe_ix ix_list (pv 4) (pv 7) (fun _ _ => rfl)) (pv 6)) pa_nil)) (pv 3)) (pe_op op_add (pe_ix ix_list (pv 4) (pv 7) (fun _ _ => rfl)) (pv 6))))
  (pss_one (ps_asg (pe_ifExp (PW.pt (pw_and (pt_cmpR op_ne (pv 8) pe_int (nomark _)) (pw_and1 (pt_cmpR op_le (pe_callB call_abs (by rfl) T.n_abs (by decide +kernel) (pa_cons (pv 8) pa_nil)) (pe_op op_powW pe_int pe_int) (nomark _))))) (pv 8) (pe_ix ix_list (pv 4) (pv 7) (fun _ _ => rfl))) (pg_sub (pv 4) (pv 7) set_list))))) (pss_cons (ps_par3 (i := 9) (j := 10) (l := 11) (by rfl) sc_l_book_changed.nd rfl rfl rfl (by decide) (by decide) (by decide) rfl rfl rfl (pa_cons (pe_call (ok_l_of T) (hr.mono (by decide)) (by rfl) T.g_l_of T.F_l_of.kp T.b_l_of .nil pass0 (pa_cons (pv 0) (pa_cons (pe_callTy call_list_of (by rfl) T.n_list (by decide +kernel) (pa_cons (pe_dget (hu_of hr) (pv 1) pe_str (fun _ _ => rfl)) pa_nil)) pa_nil))) (pa_cons (pe_call (ok_l_take T) (hr.mono (by decide)) (by rfl) T.g_l_take T.F_l_take.kp T.b_l_take .nil pass0 (pa_cons (pv 0) (pa_cons (pv 2) pa_nil))) (pa_cons (pe_call (ok_l_take T) (hr.mono (by decide)) (by rfl) T.g_l_take T.F_l_take.kp T.b_l_take .nil pass0 (pa_cons (pv 0) (pa_cons (pv 2) pa_nil))) pa_nil))) (by rfl))
  (pss_cons (ps_setLc (i := 12) (own := [("row", 13)]) (g := gName 13) (by rfl) sc_l_book_changed.nd rfl rfl (sw_true rfl rfl rfl (by decide +kernel)) (pi_tup (pe_dget (hu_of hr) (pv 5) (pv 9) (fun _ _ => rfl))) (blkOk_by (own := [("row", 13)]) (by rfl)) (fun _ _ _ _ _ => (pg_name (i := 13) sc_l_book_changed.nd rfl (Or.inl rfl))) (fun _ _ _ _ _ => pts_nil) (fun _ _ _ _ _ => (pe_callTy (call_list_ofK K) (by rfl) T.n_list (by decide +kernel) (pa_cons (pv 13) pa_nil))))
  (pss_cons (ps_set (i := 8) sc_l_book_changed.nd rfl (Or.inl rfl) (pe_ifExp (pt_cmpR op_gt (pv 3) pe_int (nomark _)) (pe_op op_mod (pe_callTy call_int1 (by rfl) T.n_int (by decide +kernel) (pa_cons (pe_op op_add (pe_ix ix_list (pe_ix ix_list (pv 12) (pv 10) (fun _ _ => rfl)) (pv 11) (fun _ _ => rfl)) (pv 6)) pa_nil)) (pv 3)) (pe_op op_add (pe_ix ix_list (pe_ix ix_list (pv 12) (pv 10) (fun _ _ => rfl)) (pv 11) (fun _ _ => rfl)) (pv 6))))
  (pss_cons (ps_asg (pe_ifExp (pt_cmpR op_le (pe_callB call_abs (by rfl) T.n_abs (by decide +kernel) (pa_cons (pv 8) pa_nil)) (pe_op op_powW pe_int pe_int) (nomark _)) (pv 8) (pe_ix ix_list (pe_ix ix_list (pv 12) (pv 10) (fun _ _ => rfl)) (pv 11) (fun _ _ => rfl))) (pg_sub (pe_ix ix_list (pv 12) (pv 10) (fun _ _ => rfl)) (pv 11) set_list))
  (pss_one (ps_dput (hu_of hr) (pv 5) (pv 9) (pe_callTy call_tuple_of (by rfl) T.n_tuple (by decide +kernel) (pa_cons (pe_lc (own := [("row", 13)]) (g := gName 13) (by rfl) sc_l_book_changed.nd (pi_list (pv 12)) (blkOk_by (own := [("row", 13)]) (by rfl)) (fun _ _ _ _ _ => (pg_name (i := 13) sc_l_book_changed.nd rfl (Or.inl rfl))) (fun _ _ _ _ _ => pts_nil) (fun _ _ _ _ _ => (pe_callTy (call_tuple_ofK K) (by rfl) T.n_tuple (by decide +kernel) (pa_cons (pv 13) pa_nil)))) pa_nil)) rfl)))))))
  (pss_one (ps_ret (pe_disp (pps_cons pe_str (pv 3) (pps_cons pe_str (pe_dget (hu_of hr) (pv 1) pe_str (fun _ _ => rfl)) (pps_cons pe_str (pe_callTy call_tuple_of (by rfl) T.n_tuple (by decide +kernel) (pa_cons (pv 4) pa_nil)) (pps_cons pe_str (pe_dget (hu_of hr) (pv 1) pe_str (fun _ _ => rfl)) (pps_cons pe_str (pv 5) pps_nil))))) (by rfl) (by rfl) (fun z => by cases z) (by decide))))))), ?_⟩
    have hm4 := ok.m4
    have hm1 := ok.m1
    have hb0 := ok.b0
    have hb1 := ok.b1
    have hb97 := ok.b97
    have hwl := ok.wl
    have hk1 := ok.k1
    have hk3 := ok.k3
    obtain ⟨kvs, tm, tw, tk, td, hO, hl10, v1, v2, hT2, v3, hT3, v4, hT4, v5, tkvs, hTd, tnd, tln, tabs⟩ := id hB
    refine ⟨.ref o, rfl, o, _, rfl, dget hO v2, tm, _, rfl, .inr (SqT.of hT2), ?_⟩
    rw [List.length_map, ok.nm.len]
    refine ⟨.ref o, rfl, o, _, rfl, dget hO v1, ?_⟩
    refine ⟨_, _, rfl, ?_⟩
    refine ⟨.ref o, rfl, o, _, rfl, dget hO v3, tw, _, rfl, .inr (SqT.of hT3), fun wl hwl0 => ?_⟩
    have e1 := (Dr.start hP (Nat.le_refl _)).new (o := .lst (ws.map V.int)) hwl0
    refine ⟨.ref o, rfl, o, _, rfl, dget (e1.st (hP.neD hO) hO) v5, td, tkvs, rfl, e1.st (hP.neD hTd) hTd, fun H1 li ts s1 nli nts nlt hli hpr => ?_⟩
    have s1 : Same (upd H wl (.lst (ws.map V.int))) H1 := s1
    refine ⟨li, ts, tkvs, rfl, SqL.of hli, ?_, fun tt htt => ?_⟩
    · exact paired_imp (fun _ _ e => SqT.of e) hpr
    rw [merge0 tnd]
    have nwp : wl ≠ p := hP.ne hwl0
    have d2 := (e1.sm s1).new (o := .dK tkvs) htt
    have s2 := s1.trans (same_new (o := .dK tkvs) htt)
    have ntp : tt ≠ p := (e1.sm s1).2.ne htt
    have ftt : H tt = none := (e1.sm s1).fr htt
    have hwl2 : (upd H1 tt (.dK tkvs)) wl = some (.lst (ws.map V.int)) := s2 _ _ upd_same
    have htt2 : (upd H1 tt (.dK tkvs)) tt = some (.dK tkvs) := upd_same
    have nwt : wl ≠ tt := ne_of_none (s1 _ _ upd_same) htt
    generalize upd H1 tt (.dK tkvs) = H2 at *
    refine ⟨.ref p, rfl, _, rfl, by decide, fun ls0 hls0 => ?_⟩
    have d3 := d2.new (o := .lst [V.int 1, V.int (-1), V.int 2]) hls0
    refine ⟨p, ls0, _, k + 199, rfl, d3.2.mono (by omega), SqL.of upd_same, d2.2.ne hls0, by decide, by decide, fun j x H3 hx d4 => ?_⟩
    obtain ⟨st, rfl, st0, st1⟩ : ∃ st : Int, x = .int st ∧ -1 ≤ st ∧ st ≤ 2 := by
      have hx : [V.int 1, V.int (-1), V.int 2][j]? = some x := hx
      rcases j with _ | _ | _ | j
      · exact ⟨1, (Option.some.inj hx).symm, by decide, by decide⟩
      · exact ⟨-1, (Option.some.inj hx).symm, by decide, by decide⟩
      · exact ⟨2, (Option.some.inj hx).symm, by decide, by decide⟩
      · simp at hx
    have d23 := (Dr.start d2.2 (Nat.le_refl _)).new (o := .lst [V.int 1, V.int (-1), V.int 2]) hls0 |>.trans d4
    have d3 := d2.trans d23
    have hwl3 := d23.st nwp hwl2
    have htt3 := d23.st ntp htt2
    have fin : ∀ (H9 : Hp) (us : List Int) (Ms' : List (List (List Int))), Dr p k H H9 → H9 wl = some (.lst (us.map V.int)) → us.length = m → (∀ z ∈ us, WOk b z) → TabsAt b m H9 tt ks Ms' → Ms'.length = ks.length → ∀ q' tv, H9 q' = none → (upd H9 q' (.dK [])) tv = none → Q (.ref q') (upd (upd (upd H9 q' (.dK [])) tv (.tup (us.map V.int))) q' (.dK (dict5 b tm tv tk tt))) := fun H9 us Ms' d9 h9 l9 w9 t9 lm q' tv hq' htv => by
      have nqv : q' ≠ tv := ne_of_none upd_same htv
      have sF : Same H9 (upd (upd (upd H9 q' (.dK [])) tv (.tup (us.map V.int))) q' (.dK (dict5 b tm tv tk tt))) := fun a z hz => by
        have n : a ≠ q' := ne_of_none hz hq'
        rw [upd_ne n]
        exact same_new htv _ _ (same_new hq' _ _ hz)
      obtain ⟨w1, w2, w3, w4, w5⟩ := dict5_at b tm tv tk tt
      exact q q' us Ms' _ (d9.sm sF) ⟨_, tm, tv, tk, tt, upd_same, (by show 5 ≤ 10; decide), w1, w2, sF _ _ (d9.st (hP.neT hT2) hT2), w3, by rw [upd_ne nqv.symm, upd_same], w4, sF _ _ (d9.st (hP.neT hT4) hT4), w5, t9.same sF⟩ ⟨ok.b0, ok.b1, ok.b97, ok.m1, ok.m4, ok.nm, l9, w9, ok.nk, ok.k1, ok.k3, lm⟩
    have tabs3 : ∀ H9, Dr p k H H9 → H9 tt = some (.dK tkvs) → TabsAt b m H9 tt ks Ms := fun H9 d9 h9 => ⟨tkvs, h9, tnd, tln, fun i kd hk => by
      obtain ⟨t, M, a1, a2, a3⟩ := tabs i kd hk
      exact ⟨t, M, a1, a2, a3.dr hP d9⟩⟩
    refine ⟨_, _, _, rfl, ?_⟩
    refine ⟨.ref p, rfl, p, 3, k + 198, rfl, d3.2, by decide, by decide, fun way H4 _ _ d4 => ?_⟩
    refine ⟨rfl, _, rfl, ite2 (fun _ => ?_) (fun _ => ?_)⟩
    · refine ⟨.ref p, rfl, .int m, rfl, p, m, k + 197, rfl, d4.2, by omega, by omega, fun ai H5 a0 a1 d5 => ?_⟩
      obtain ⟨a, rfl⟩ : ∃ a : Nat, ai = (a : Int) := ⟨ai.toNat, by omega⟩
      have ham : a < m := by omega
      obtain ⟨wv, hwv, wok⟩ := w_at ok.wl ok.w ham
      have d45 := d4.trans d5
      have d05 := d3.trans d45
      have hwl5 := d45.st nwp hwl3
      have htt5 := d45.st ntp htt3
      have fin1 : ∀ (y : Int), WOk b y → ∀ q' tv, (upd H5 wl (.lst ((ws.map V.int).set a (V.int y)))) q' = none → (upd (upd H5 wl (.lst ((ws.map V.int).set a (V.int y)))) q' (.dK [])) tv = none → Q (.ref q') (upd (upd (upd (upd H5 wl (.lst ((ws.map V.int).set a (V.int y)))) q' (.dK [])) tv (.tup ((ws.map V.int).set a (V.int y)))) q' (.dK (dict5 b tm tv tk tt))) := fun y hy q' tv hq' htv => by
        have e : (ws.map V.int).set a (V.int y) = (ws.set a y).map V.int := by rw [List.map_set]
        rw [e] at hq' htv ⊢
        have d9 := (d05.mut (o := .lst ((ws.set a y).map V.int)) hwl0 nwp).mono (show k ≤ k + 197 by omega)
        refine fin _ (ws.set a y) Ms d9 upd_same (by rw [List.length_set]; exact hwl) (fun z hz => ?_) (tabs3 _ d9 (by rw [upd_ne nwt.symm]; exact htt5)) ok.ml q' tv hq' htv
        rcases List.mem_or_eq_of_mem_set hz with v | v
        · exact ok.w z v
        · rw [v]
          exact hy
      refine ⟨.int b, rfl, _, _, rfl, rfl, _, rfl, ite2 (fun hb => ?_) (fun hb => ?_)⟩
      · have hb : 0 < b := of_decide_eq_true hb
        refine ⟨.ref wl, rfl, .int a, rfl, wl, _, (a : Int), _, rfl, rfl, SqL.of hwl5, atI_nat hwv, .int st, rfl, _, _, rfl, rfl, ?_⟩
        refine .inl ⟨_, rfl, ?_⟩
        refine ⟨.int b, rfl, _, _, rfl, rfl, hb, ?_⟩
        have r0 := Int.emod_nonneg (wv + st) (show b ≠ 0 by omega)
        have r1 := Int.emod_lt_of_pos (wv + st) hb
        dsimp only
        generalize (wv + st) % b = r at *
        refine ⟨.int r, rfl, rfl, _, rfl, ite2 (fun hne => ?_) (fun _ => iteF ?_)⟩
        · refine ⟨.int r, rfl, r, rfl, _, _, rfl, rfl, pow_c (by decide), _, _, rfl, rfl, _, rfl, ite2 (fun hle => ?_) (fun _ => ?_)⟩
          · refine ⟨.int r, rfl, .ref wl, rfl, .int a, rfl, wl, _, (a : Int), a, rfl, rfl, hwl5, ixN_at (by rw [List.length_map]; omega), ?_⟩
            refine fun q' hq' => ?_
            have hOq := (d05.mut (o := .lst ((ws.map V.int).set a (V.int r))) hwl0 nwp).sm (same_new (o := .dK []) hq')
            refine ⟨.int b, rfl, .ref o, rfl, o, _, rfl, dget (hOq.st (hP.neD hO) hO) v2, .ref wl, rfl, wl, _, rfl, .inl ⟨SqL.of (same_new hq' _ _ upd_same), fun tv htv => ?_⟩⟩
            have st2 := same_new (o := .tup ((ws.map V.int).set a (V.int r))) htv
            refine ⟨.ref o, rfl, o, _, rfl, dget (st2 _ _ (hOq.st (hP.neD hO) hO)) v4, .ref tt, rfl, st2 _ _ upd_same, dict5 b tm tv tk tt, rfl, (by show 5 ≤ 15; decide), ?_⟩
            rw [merge0 (dict5_nd b tm tv tk tt)]
            have wr : WOk b r := by
              have hne : ¬ r = 0 := fun z => by
                rw [z] at hne
                exact absurd hne (by decide)
              exact ⟨hne, by omega, by omega, fun _ => by omega⟩
            exact fin1 r wr q' tv hq' htv
          · refine ⟨.ref wl, rfl, .int a, rfl, wl, _, (a : Int), _, rfl, rfl, SqL.of hwl5, atI_nat hwv, ?_⟩
            refine ⟨.ref wl, rfl, .int a, rfl, wl, _, (a : Int), a, rfl, rfl, hwl5, ixN_at (by rw [List.length_map]; omega), ?_⟩
            refine fun q' hq' => ?_
            have hOq := (d05.mut (o := .lst ((ws.map V.int).set a (V.int wv))) hwl0 nwp).sm (same_new (o := .dK []) hq')
            refine ⟨.int b, rfl, .ref o, rfl, o, _, rfl, dget (hOq.st (hP.neD hO) hO) v2, .ref wl, rfl, wl, _, rfl, .inl ⟨SqL.of (same_new hq' _ _ upd_same), fun tv htv => ?_⟩⟩
            have st2 := same_new (o := .tup ((ws.map V.int).set a (V.int wv))) htv
            refine ⟨.ref o, rfl, o, _, rfl, dget (st2 _ _ (hOq.st (hP.neD hO) hO)) v4, .ref tt, rfl, st2 _ _ upd_same, dict5 b tm tv tk tt, rfl, (by show 5 ≤ 15; decide), ?_⟩
            rw [merge0 (dict5_nd b tm tv tk tt)]
            exact fin1 wv wok q' tv hq' htv
        · refine ⟨.ref wl, rfl, .int a, rfl, wl, _, (a : Int), _, rfl, rfl, SqL.of hwl5, atI_nat hwv, ?_⟩
          refine ⟨.ref wl, rfl, .int a, rfl, wl, _, (a : Int), a, rfl, rfl, hwl5, ixN_at (by rw [List.length_map]; omega), ?_⟩
          refine fun q' hq' => ?_
          have hOq := (d05.mut (o := .lst ((ws.map V.int).set a (V.int wv))) hwl0 nwp).sm (same_new (o := .dK []) hq')
          refine ⟨.int b, rfl, .ref o, rfl, o, _, rfl, dget (hOq.st (hP.neD hO) hO) v2, .ref wl, rfl, wl, _, rfl, .inl ⟨SqL.of (same_new hq' _ _ upd_same), fun tv htv => ?_⟩⟩
          have st2 := same_new (o := .tup ((ws.map V.int).set a (V.int wv))) htv
          refine ⟨.ref o, rfl, o, _, rfl, dget (st2 _ _ (hOq.st (hP.neD hO) hO)) v4, .ref tt, rfl, st2 _ _ upd_same, dict5 b tm tv tk tt, rfl, (by show 5 ≤ 15; decide), ?_⟩
          rw [merge0 (dict5_nd b tm tv tk tt)]
          exact fin1 wv wok q' tv hq' htv
      · have hb : ¬ 0 < b := of_decide_eq_false (Bool.eq_false_iff.mpr hb)
        refine ⟨.ref wl, rfl, .int a, rfl, wl, _, (a : Int), _, rfl, rfl, SqL.of hwl5, atI_nat hwv, .int st, rfl, _, _, rfl, rfl, ?_⟩
        dsimp only
        generalize wv + st = r at *
        refine ⟨.int r, rfl, rfl, _, rfl, ite2 (fun hne => ?_) (fun _ => iteF ?_)⟩
        · refine ⟨.int r, rfl, r, rfl, _, _, rfl, rfl, pow_c (by decide), _, _, rfl, rfl, _, rfl, ite2 (fun hle => ?_) (fun _ => ?_)⟩
          · refine ⟨.int r, rfl, .ref wl, rfl, .int a, rfl, wl, _, (a : Int), a, rfl, rfl, hwl5, ixN_at (by rw [List.length_map]; omega), ?_⟩
            refine fun q' hq' => ?_
            have hOq := (d05.mut (o := .lst ((ws.map V.int).set a (V.int r))) hwl0 nwp).sm (same_new (o := .dK []) hq')
            refine ⟨.int b, rfl, .ref o, rfl, o, _, rfl, dget (hOq.st (hP.neD hO) hO) v2, .ref wl, rfl, wl, _, rfl, .inl ⟨SqL.of (same_new hq' _ _ upd_same), fun tv htv => ?_⟩⟩
            have st2 := same_new (o := .tup ((ws.map V.int).set a (V.int r))) htv
            refine ⟨.ref o, rfl, o, _, rfl, dget (st2 _ _ (hOq.st (hP.neD hO) hO)) v4, .ref tt, rfl, st2 _ _ upd_same, dict5 b tm tv tk tt, rfl, (by show 5 ≤ 15; decide), ?_⟩
            rw [merge0 (dict5_nd b tm tv tk tt)]
            have wr : WOk b r := by
              have hne : ¬ r = 0 := fun z => by
                rw [z] at hne
                exact absurd hne (by decide)
              exact ⟨hne, (bigT hb hle).1, (bigT hb hle).2.1, fun z => absurd z hb⟩
            exact fin1 r wr q' tv hq' htv
          · refine ⟨.ref wl, rfl, .int a, rfl, wl, _, (a : Int), _, rfl, rfl, SqL.of hwl5, atI_nat hwv, ?_⟩
            refine ⟨.ref wl, rfl, .int a, rfl, wl, _, (a : Int), a, rfl, rfl, hwl5, ixN_at (by rw [List.length_map]; omega), ?_⟩
            refine fun q' hq' => ?_
            have hOq := (d05.mut (o := .lst ((ws.map V.int).set a (V.int wv))) hwl0 nwp).sm (same_new (o := .dK []) hq')
            refine ⟨.int b, rfl, .ref o, rfl, o, _, rfl, dget (hOq.st (hP.neD hO) hO) v2, .ref wl, rfl, wl, _, rfl, .inl ⟨SqL.of (same_new hq' _ _ upd_same), fun tv htv => ?_⟩⟩
            have st2 := same_new (o := .tup ((ws.map V.int).set a (V.int wv))) htv
            refine ⟨.ref o, rfl, o, _, rfl, dget (st2 _ _ (hOq.st (hP.neD hO) hO)) v4, .ref tt, rfl, st2 _ _ upd_same, dict5 b tm tv tk tt, rfl, (by show 5 ≤ 15; decide), ?_⟩
            rw [merge0 (dict5_nd b tm tv tk tt)]
            exact fin1 wv wok q' tv hq' htv
        · refine ⟨.ref wl, rfl, .int a, rfl, wl, _, (a : Int), _, rfl, rfl, SqL.of hwl5, atI_nat hwv, ?_⟩
          refine ⟨.ref wl, rfl, .int a, rfl, wl, _, (a : Int), a, rfl, rfl, hwl5, ixN_at (by rw [List.length_map]; omega), ?_⟩
          refine fun q' hq' => ?_
          have hOq := (d05.mut (o := .lst ((ws.map V.int).set a (V.int wv))) hwl0 nwp).sm (same_new (o := .dK []) hq')
          refine ⟨.int b, rfl, .ref o, rfl, o, _, rfl, dget (hOq.st (hP.neD hO) hO) v2, .ref wl, rfl, wl, _, rfl, .inl ⟨SqL.of (same_new hq' _ _ upd_same), fun tv htv => ?_⟩⟩
          have st2 := same_new (o := .tup ((ws.map V.int).set a (V.int wv))) htv
          refine ⟨.ref o, rfl, o, _, rfl, dget (st2 _ _ (hOq.st (hP.neD hO) hO)) v4, .ref tt, rfl, st2 _ _ upd_same, dict5 b tm tv tk tt, rfl, (by show 5 ≤ 15; decide), ?_⟩
          rw [merge0 (dict5_nd b tm tv tk tt)]
          exact fin1 wv wok q' tv hq' htv
    · refine ⟨.ref p, rfl, .ref o, rfl, o, _, rfl, dget ((d3.trans d4).st (hP.neD hO) hO) v4, tk, _, rfl, .inr (SqT.of ((d3.trans d4).st (hP.neT hT4) hT4)), fun lk hlk => ?_⟩
      have d5 := d4.new (o := .lst (ks.map V.str)) hlk
      refine ⟨p, lk, _, k + 197, rfl, d5.2.mono (by omega), SqL.of upd_same, d4.2.ne hlk, by rw [List.length_map]; omega, by rw [List.length_map]; omega, fun j x H5 hx d6 => ?_⟩
      obtain ⟨kd, hkd, rfl⟩ : ∃ kd, ks[j]? = some kd ∧ x = .str kd := by
        rw [List.getElem?_map] at hx
        cases e : ks[j]? with
        | none =>
          rw [e] at hx
          cases hx
        | some kd =>
          rw [e] at hx
          exact ⟨kd, rfl, (Option.some.inj hx).symm⟩
      refine ⟨.ref p, rfl, .int m, rfl, p, m, k + 196, rfl, d6.2, by omega, by omega, fun ai H6 a0 a1 d7 => ?_⟩
      refine ⟨.ref p, rfl, .int m, rfl, p, m, k + 195, rfl, d7.2, by omega, by omega, fun ci H7 c0 c1 d8 => ?_⟩
      obtain ⟨a, rfl⟩ : ∃ a : Nat, ai = (a : Int) := ⟨ai.toNat, by omega⟩
      obtain ⟨c, rfl⟩ : ∃ c : Nat, ci = (c : Int) := ⟨ci.toNat, by omega⟩
      have ham : a < m := by omega
      have hcm : c < m := by omega
      refine ⟨_, _, _, rfl, ?_⟩
      have d37 := ((d5.trans d6).trans d7).trans d8
      have d07 := d3.trans d37
      have hwl7 := d37.st nwp hwl3
      have htt7 := d37.st ntp htt3
      obtain ⟨t, M, y1, y2, y3⟩ := tabs j kd hkd
      obtain ⟨rs, z1, z2, z3, z4, z5⟩ := y3.dr hP d07
      refine ⟨.ref tt, rfl, .str kd, rfl, tt, _, rfl, dget htt7 y1, ?_⟩
      refine ⟨t, rfl, ⟨_, SqT.of z1⟩, fun D hD => ?_⟩
      refine lc_tup (K := K) (a := t) (xs := rs.map V.ref) (fun i H' => i ≤ m ∧ Same H7 H' ∧ ∃ ls : List Addr, H' D = some (.lst (ls.map V.ref)) ∧ ls.length = i ∧ ls.Nodup ∧ ∀ (n : Nat) (l : Addr), ls[n]? = some l → l ≠ D ∧ H7 l = none ∧ ∃ row, M[n]? = some row ∧ H' l = some (.lst (row.map V.int)))
        ⟨Nat.zero_le _, same_new hD, [], upd_same, rfl, List.nodup_nil, fun n l h => by simp at h⟩ (fun i H' _ ⟨_, s, _⟩ => SqT.of (s _ _ z1)) ?_ ?_
      · rintro i x H' hx ⟨_, s, ls, g1, g2, g3, g4⟩
        obtain ⟨r, hr, rfl⟩ := ref_at hx
        have him : i < m := by
          have := (List.getElem?_eq_some_iff.mp hr).1
          omega
        obtain ⟨row, u1, u2⟩ := z4 i r hr
        refine ⟨rfl, ?_⟩
        refine ⟨.ref r, rfl, r, _, rfl, .inr (SqT.of (s _ _ u2)), fun l hl => ?_⟩
        have nDl : D ≠ l := ne_of_none g1 hl
        have sl := same_new (o := .lst (row.map V.int)) hl
        refine ⟨_, sl _ _ g1, by rw [List.length_map]; exact small1000 (by omega), him, fun a o ho => ?_, ls ++ [l], ?_, by rw [List.length_append, g2]; rfl, ?_, fun n l' hn => ?_⟩
        · rw [upd_ne (ne_of_none ho hD)]
          exact sl _ _ (s _ _ ho)
        · rw [upd_same, List.map_append]
          rfl
        · rw [List.nodup_append]
          refine ⟨g3, by simp, fun a ha b hb z => ?_⟩
          have eb : b = l := by simpa using hb
          obtain ⟨n, hn⟩ := List.getElem?_of_mem ha
          obtain ⟨_, _, _, _, e⟩ := g4 n a hn
          rw [z, eb, hl] at e
          cases e
        · by_cases hj : n < ls.length
          · rw [List.getElem?_append_left hj] at hn
            obtain ⟨k1, k2, row', k3, k4⟩ := g4 n l' hn
            exact ⟨k1, k2, row', k3, by rw [upd_ne k1]; exact sl _ _ k4⟩
          · rw [List.getElem?_append_right (by omega)] at hn
            have hj0 : n - ls.length = 0 := by
              have := (List.getElem?_eq_some_iff.mp hn).1
              simp only [List.length_singleton] at this
              omega
            rw [hj0] at hn
            have eq : l = l' := Option.some.inj hn
            subst eq
            exact ⟨nDl.symm, s.free hl, row, by rw [show n = i by omega]; exact u1, by rw [upd_ne nDl.symm, upd_same]⟩
      · rintro H8 ⟨_, s8, ls, g1, g2, g3, g4⟩
        rw [List.length_map, z2] at g2
        have rw8 : Rws b m H8 ls M := ⟨z3, g2, fun n l hn => (g4 n l hn).2.2, z5⟩
        obtain ⟨la, hla⟩ : ∃ la, ls[a]? = some la := ⟨_, List.getElem?_eq_getElem (by omega)⟩
        obtain ⟨nlaD, f7, row, hra, hla8⟩ := g4 a la hla
        obtain ⟨f1, f2⟩ := z5 row (List.mem_of_getElem? hra)
        obtain ⟨zv, hzv, hz⟩ := row_at f1 f2 hcm
        have hlaD : (ls.map V.ref)[a]? = some (.ref la) := by
          rw [List.getElem?_map, hla]
          rfl
        have d08 := d07.sm s8
        have hwl8 := s8 _ _ hwl7
        have htt8 := s8 _ _ htt7
        have fla : H la = none := d07.fr f7
        have nlp : la ≠ p := d07.2.ne f7
        have nwla : wl ≠ la := ne_of_none hwl7 f7
        have ntla : tt ≠ la := ne_of_none htt7 f7
        refine ⟨.int b, rfl, _, _, rfl, rfl, _, rfl, ite2 (fun hb => ?_) (fun hb => ?_)⟩
        · have hb : 0 < b := of_decide_eq_true hb
          refine ⟨.ref D, rfl, .int a, rfl, D, _, (a : Int), _, rfl, rfl, SqL.of g1, atI_nat hlaD, .int c, rfl, la, _, (c : Int), _, rfl, rfl, SqL.of hla8, atI_nat hzv, .int st, rfl, _, _, rfl, rfl, ?_⟩
          refine .inl ⟨_, rfl, ?_⟩
          refine ⟨.int b, rfl, _, _, rfl, rfl, hb, ?_⟩
          have r0 := Int.emod_nonneg (zv + st) (show b ≠ 0 by omega)
          have r1 := Int.emod_lt_of_pos (zv + st) hb
          dsimp only
          generalize (zv + st) % b = r at *
          refine ⟨.int r, rfl, r, rfl, _, _, rfl, rfl, pow_c (by decide), _, _, rfl, rfl, _, rfl, ite2 (fun hle => ?_) (fun _ => ?_)⟩
          · refine ⟨.int r, rfl, .ref D, rfl, .int a, rfl, D, _, (a : Int), _, rfl, rfl, SqL.of g1, atI_nat hlaD, .int c, rfl, la, _, (c : Int), c, rfl, rfl, hla8, ixN_at (by rw [List.length_map]; omega), ?_⟩
            have hy : TOk b r := ⟨by omega, by omega, fun _ => ⟨r0, r1⟩⟩
            have d9 := d08.mut (o := .lst ((row.map V.int).set c (V.int r))) fla nlp
            have r9 := rw8.put (c := c) (y := r) g3 hla hra hy
            have hD9 : (upd H8 la (.lst ((row.map V.int).set c (V.int r)))) D = some (.lst (ls.map V.ref)) := by
              rw [upd_ne nlaD.symm]
              exact g1
            have hwl9 : (upd H8 la (.lst ((row.map V.int).set c (V.int r)))) wl = some (.lst (ws.map V.int)) := by
              rw [upd_ne nwla]
              exact hwl8
            have htt9 : (upd H8 la (.lst ((row.map V.int).set c (V.int r)))) tt = some (.dK tkvs) := by
              rw [upd_ne ntla]
              exact htt8
            generalize upd H8 la (.lst ((row.map V.int).set c (V.int r))) = H9 at *
            generalize M.set a (row.set c r) = M2 at *
            obtain ⟨m1', m2', m3', m4'⟩ := r9
            refine ⟨.ref D, rfl, D, rfl, ⟨_, SqL.of hD9⟩, fun F hF => ?_⟩
            refine lc_list (K := K) (a := D) (xs := ls.map V.ref) (fun i H' => i ≤ m ∧ Same H9 H' ∧ ∃ qs : List Addr, H' F = some (.lst (qs.map V.ref)) ∧ qs.length = i ∧ ∀ (n : Nat) (q : Addr), qs[n]? = some q → q ≠ F ∧ ∃ row, M2[n]? = some row ∧ H' q = some (.tup (row.map V.int)))
              ⟨Nat.zero_le _, same_new hF, [], upd_same, rfl, fun n l h => by simp at h⟩ (fun i H' _ ⟨_, s, _⟩ => SqL.of (s _ _ hD9)) ?_ ?_
            · rintro i x H' hx ⟨_, s, qs, q1, q2, q3⟩
              obtain ⟨l, hl, rfl⟩ := ref_at hx
              have him : i < m := by
                have := (List.getElem?_eq_some_iff.mp hl).1
                omega
              obtain ⟨row', u1, u2⟩ := m3' i l hl
              refine ⟨rfl, ?_⟩
              refine ⟨.ref l, rfl, l, _, rfl, .inl ⟨SqL.of (s _ _ u2), fun t2 ht2 => ?_⟩⟩
              have nFt : F ≠ t2 := ne_of_none q1 ht2
              have st2 := same_new (o := .tup (row'.map V.int)) ht2
              refine ⟨_, st2 _ _ q1, by rw [List.length_map]; exact small1000 (by omega), him, fun a o ho => ?_, qs ++ [t2], ?_, by rw [List.length_append, q2]; rfl, fun n l' hn => ?_⟩
              · rw [upd_ne (ne_of_none ho hF)]
                exact st2 _ _ (s _ _ ho)
              · rw [upd_same, List.map_append]
                rfl
              · by_cases hj : n < qs.length
                · rw [List.getElem?_append_left hj] at hn
                  obtain ⟨k1, row2, k3, k4⟩ := q3 n l' hn
                  exact ⟨k1, row2, k3, by rw [upd_ne k1]; exact st2 _ _ k4⟩
                · rw [List.getElem?_append_right (by omega)] at hn
                  have hj0 : n - qs.length = 0 := by
                    have := (List.getElem?_eq_some_iff.mp hn).1
                    simp only [List.length_singleton] at this
                    omega
                  rw [hj0] at hn
                  have eq : t2 = l' := Option.some.inj hn
                  subst eq
                  exact ⟨nFt.symm, row', by rw [show n = i by omega]; exact u1, by rw [upd_ne nFt.symm, upd_same]⟩
            · rintro H10 ⟨_, s10, qs, q1, q2, q3⟩
              rw [List.length_map, g2] at q2
              refine ⟨F, _, rfl, .inl ⟨SqL.of q1, fun t2 ht2 => ?_⟩⟩
              have sT := s10.trans (same_new (o := .tup (qs.map V.ref)) ht2)
              have tb : Tab b (upd H10 t2 (.tup (qs.map V.ref))) t2 m M2 := ⟨qs, upd_same, q2, m1', fun n q' hq' => by
                obtain ⟨_, row2, k3, k4⟩ := q3 n q' hq'
                exact ⟨row2, k3, same_new ht2 _ _ k4⟩, m4'⟩
              have htT := sT _ _ htt9
              have hwT := sT _ _ hwl9
              have dT := d9.sm sT
              generalize upd H10 t2 (.tup (qs.map V.ref)) = HT at *
              refine ⟨.ref tt, rfl, .str kd, rfl, tt, _, rfl, DPut.k (k := .inr kd) htT (small1000 (by omega)), ?_⟩
              have nup : ∀ xs, HT tt ≠ some (.tup xs) := fun xs z => by
                rw [htT] at z
                cases z
              have dF := dT.mut (o := .dK (putK tkvs (.inr kd) (.ref t2))) ftt ntp
              have tabF : TabsAt b m (upd HT tt (.dK (putK tkvs (.inr kd) (.ref t2)))) tt ks (Ms.set j M2) := by
                refine ⟨_, upd_same, putK_nd tnd, ?_, fun n k' hk' => ?_⟩
                · unfold putK
                  split
                  · rw [List.length_map]
                    exact tln
                  · rename_i e
                    exact absurd (by rw [valV_any, y1]; rfl) e
                · by_cases hnj : n = j
                  · subst hnj
                    rw [hkd] at hk'
                    have e := Option.some.inj hk'
                    subst e
                    exact ⟨t2, M2, by rw [valV_put, if_pos rfl], by rw [List.getElem?_set_self (List.getElem?_eq_some_iff.mp y2).1], tb.upd nup⟩
                  · obtain ⟨t', M', k1, k2, k3⟩ := tabs n k' hk'
                    have nkk : ¬ (Sum.inr k' : Key) = Sum.inr kd := fun z => by
                      have z := Sum.inr.inj z
                      rw [z] at hk'
                      exact hnj ((List.getElem?_inj (List.getElem?_eq_some_iff.mp hk').1 ok.nk.nd).mp (hk'.trans hkd.symm))
                    exact ⟨t', M', by rw [valV_put, if_neg nkk]; exact k1, by rw [List.getElem?_set_ne (Ne.symm hnj)]; exact k2, (k3.dr hP dT).upd nup⟩
              have hwF : (upd HT tt (.dK (putK tkvs (.inr kd) (.ref t2)))) wl = some (.lst (ws.map V.int)) := by
                rw [upd_ne nwt]
                exact hwT
              have httF : (upd HT tt (.dK (putK tkvs (.inr kd) (.ref t2)))) tt = some (.dK (putK tkvs (.inr kd) (.ref t2))) := upd_same
              generalize upd HT tt (.dK (putK tkvs (.inr kd) (.ref t2))) = HF at *
              refine fun q' hq' => ?_
              have hOq := dF.sm (same_new (o := .dK []) hq')
              refine ⟨.int b, rfl, .ref o, rfl, o, _, rfl, dget (hOq.st (hP.neD hO) hO) v2, .ref wl, rfl, wl, _, rfl, .inl ⟨SqL.of (same_new hq' _ _ hwF), fun tv htv => ?_⟩⟩
              have st2 := same_new (o := .tup (ws.map V.int)) htv
              refine ⟨.ref o, rfl, o, _, rfl, dget (st2 _ _ (hOq.st (hP.neD hO) hO)) v4, .ref tt, rfl, st2 _ _ upd_same, dict5 b tm tv tk tt, rfl, (by show 5 ≤ 15; decide), ?_⟩
              rw [merge0 (dict5_nd b tm tv tk tt)]
              exact fin HF ws (Ms.set j M2) (dF.mono (by omega)) hwF hwl ok.w tabF (by rw [List.length_set]; exact ok.ml) q' tv hq' htv
          · refine ⟨.ref D, rfl, .int a, rfl, D, _, (a : Int), _, rfl, rfl, SqL.of g1, atI_nat hlaD, .int c, rfl, la, _, (c : Int), _, rfl, rfl, SqL.of hla8, atI_nat hzv, ?_⟩
            refine ⟨.ref D, rfl, .int a, rfl, D, _, (a : Int), _, rfl, rfl, SqL.of g1, atI_nat hlaD, .int c, rfl, la, _, (c : Int), c, rfl, rfl, hla8, ixN_at (by rw [List.length_map]; omega), ?_⟩
            have hy : TOk b zv := hz
            have d9 := d08.mut (o := .lst ((row.map V.int).set c (V.int zv))) fla nlp
            have r9 := rw8.put (c := c) (y := zv) g3 hla hra hy
            have hD9 : (upd H8 la (.lst ((row.map V.int).set c (V.int zv)))) D = some (.lst (ls.map V.ref)) := by
              rw [upd_ne nlaD.symm]
              exact g1
            have hwl9 : (upd H8 la (.lst ((row.map V.int).set c (V.int zv)))) wl = some (.lst (ws.map V.int)) := by
              rw [upd_ne nwla]
              exact hwl8
            have htt9 : (upd H8 la (.lst ((row.map V.int).set c (V.int zv)))) tt = some (.dK tkvs) := by
              rw [upd_ne ntla]
              exact htt8
            generalize upd H8 la (.lst ((row.map V.int).set c (V.int zv))) = H9 at *
            generalize M.set a (row.set c zv) = M2 at *
            obtain ⟨m1', m2', m3', m4'⟩ := r9
            refine ⟨.ref D, rfl, D, rfl, ⟨_, SqL.of hD9⟩, fun F hF => ?_⟩
            refine lc_list (K := K) (a := D) (xs := ls.map V.ref) (fun i H' => i ≤ m ∧ Same H9 H' ∧ ∃ qs : List Addr, H' F = some (.lst (qs.map V.ref)) ∧ qs.length = i ∧ ∀ (n : Nat) (q : Addr), qs[n]? = some q → q ≠ F ∧ ∃ row, M2[n]? = some row ∧ H' q = some (.tup (row.map V.int)))
              ⟨Nat.zero_le _, same_new hF, [], upd_same, rfl, fun n l h => by simp at h⟩ (fun i H' _ ⟨_, s, _⟩ => SqL.of (s _ _ hD9)) ?_ ?_
            · rintro i x H' hx ⟨_, s, qs, q1, q2, q3⟩
              obtain ⟨l, hl, rfl⟩ := ref_at hx
              have him : i < m := by
                have := (List.getElem?_eq_some_iff.mp hl).1
                omega
              obtain ⟨row', u1, u2⟩ := m3' i l hl
              refine ⟨rfl, ?_⟩
              refine ⟨.ref l, rfl, l, _, rfl, .inl ⟨SqL.of (s _ _ u2), fun t2 ht2 => ?_⟩⟩
              have nFt : F ≠ t2 := ne_of_none q1 ht2
              have st2 := same_new (o := .tup (row'.map V.int)) ht2
              refine ⟨_, st2 _ _ q1, by rw [List.length_map]; exact small1000 (by omega), him, fun a o ho => ?_, qs ++ [t2], ?_, by rw [List.length_append, q2]; rfl, fun n l' hn => ?_⟩
              · rw [upd_ne (ne_of_none ho hF)]
                exact st2 _ _ (s _ _ ho)
              · rw [upd_same, List.map_append]
                rfl
              · by_cases hj : n < qs.length
                · rw [List.getElem?_append_left hj] at hn
                  obtain ⟨k1, row2, k3, k4⟩ := q3 n l' hn
                  exact ⟨k1, row2, k3, by rw [upd_ne k1]; exact st2 _ _ k4⟩
                · rw [List.getElem?_append_right (by omega)] at hn
                  have hj0 : n - qs.length = 0 := by
                    have := (List.getElem?_eq_some_iff.mp hn).1
                    simp only [List.length_singleton] at this
                    omega
                  rw [hj0] at hn
                  have eq : t2 = l' := Option.some.inj hn
                  subst eq
                  exact ⟨nFt.symm, row', by rw [show n = i by omega]; exact u1, by rw [upd_ne nFt.symm, upd_same]⟩
            · rintro H10 ⟨_, s10, qs, q1, q2, q3⟩
              rw [List.length_map, g2] at q2
              refine ⟨F, _, rfl, .inl ⟨SqL.of q1, fun t2 ht2 => ?_⟩⟩
              have sT := s10.trans (same_new (o := .tup (qs.map V.ref)) ht2)
              have tb : Tab b (upd H10 t2 (.tup (qs.map V.ref))) t2 m M2 := ⟨qs, upd_same, q2, m1', fun n q' hq' => by
                obtain ⟨_, row2, k3, k4⟩ := q3 n q' hq'
                exact ⟨row2, k3, same_new ht2 _ _ k4⟩, m4'⟩
              have htT := sT _ _ htt9
              have hwT := sT _ _ hwl9
              have dT := d9.sm sT
              generalize upd H10 t2 (.tup (qs.map V.ref)) = HT at *
              refine ⟨.ref tt, rfl, .str kd, rfl, tt, _, rfl, DPut.k (k := .inr kd) htT (small1000 (by omega)), ?_⟩
              have nup : ∀ xs, HT tt ≠ some (.tup xs) := fun xs z => by
                rw [htT] at z
                cases z
              have dF := dT.mut (o := .dK (putK tkvs (.inr kd) (.ref t2))) ftt ntp
              have tabF : TabsAt b m (upd HT tt (.dK (putK tkvs (.inr kd) (.ref t2)))) tt ks (Ms.set j M2) := by
                refine ⟨_, upd_same, putK_nd tnd, ?_, fun n k' hk' => ?_⟩
                · unfold putK
                  split
                  · rw [List.length_map]
                    exact tln
                  · rename_i e
                    exact absurd (by rw [valV_any, y1]; rfl) e
                · by_cases hnj : n = j
                  · subst hnj
                    rw [hkd] at hk'
                    have e := Option.some.inj hk'
                    subst e
                    exact ⟨t2, M2, by rw [valV_put, if_pos rfl], by rw [List.getElem?_set_self (List.getElem?_eq_some_iff.mp y2).1], tb.upd nup⟩
                  · obtain ⟨t', M', k1, k2, k3⟩ := tabs n k' hk'
                    have nkk : ¬ (Sum.inr k' : Key) = Sum.inr kd := fun z => by
                      have z := Sum.inr.inj z
                      rw [z] at hk'
                      exact hnj ((List.getElem?_inj (List.getElem?_eq_some_iff.mp hk').1 ok.nk.nd).mp (hk'.trans hkd.symm))
                    exact ⟨t', M', by rw [valV_put, if_neg nkk]; exact k1, by rw [List.getElem?_set_ne (Ne.symm hnj)]; exact k2, (k3.dr hP dT).upd nup⟩
              have hwF : (upd HT tt (.dK (putK tkvs (.inr kd) (.ref t2)))) wl = some (.lst (ws.map V.int)) := by
                rw [upd_ne nwt]
                exact hwT
              have httF : (upd HT tt (.dK (putK tkvs (.inr kd) (.ref t2)))) tt = some (.dK (putK tkvs (.inr kd) (.ref t2))) := upd_same
              generalize upd HT tt (.dK (putK tkvs (.inr kd) (.ref t2))) = HF at *
              refine fun q' hq' => ?_
              have hOq := dF.sm (same_new (o := .dK []) hq')
              refine ⟨.int b, rfl, .ref o, rfl, o, _, rfl, dget (hOq.st (hP.neD hO) hO) v2, .ref wl, rfl, wl, _, rfl, .inl ⟨SqL.of (same_new hq' _ _ hwF), fun tv htv => ?_⟩⟩
              have st2 := same_new (o := .tup (ws.map V.int)) htv
              refine ⟨.ref o, rfl, o, _, rfl, dget (st2 _ _ (hOq.st (hP.neD hO) hO)) v4, .ref tt, rfl, st2 _ _ upd_same, dict5 b tm tv tk tt, rfl, (by show 5 ≤ 15; decide), ?_⟩
              rw [merge0 (dict5_nd b tm tv tk tt)]
              exact fin HF ws (Ms.set j M2) (dF.mono (by omega)) hwF hwl ok.w tabF (by rw [List.length_set]; exact ok.ml) q' tv hq' htv
        · have hb : ¬ 0 < b := of_decide_eq_false (Bool.eq_false_iff.mpr hb)
          refine ⟨.ref D, rfl, .int a, rfl, D, _, (a : Int), _, rfl, rfl, SqL.of g1, atI_nat hlaD, .int c, rfl, la, _, (c : Int), _, rfl, rfl, SqL.of hla8, atI_nat hzv, .int st, rfl, _, _, rfl, rfl, ?_⟩
          dsimp only
          generalize zv + st = r at *
          refine ⟨.int r, rfl, r, rfl, _, _, rfl, rfl, pow_c (by decide), _, _, rfl, rfl, _, rfl, ite2 (fun hle => ?_) (fun _ => ?_)⟩
          · refine ⟨.int r, rfl, .ref D, rfl, .int a, rfl, D, _, (a : Int), _, rfl, rfl, SqL.of g1, atI_nat hlaD, .int c, rfl, la, _, (c : Int), c, rfl, rfl, hla8, ixN_at (by rw [List.length_map]; omega), ?_⟩
            have hy : TOk b r := bigT hb hle
            have d9 := d08.mut (o := .lst ((row.map V.int).set c (V.int r))) fla nlp
            have r9 := rw8.put (c := c) (y := r) g3 hla hra hy
            have hD9 : (upd H8 la (.lst ((row.map V.int).set c (V.int r)))) D = some (.lst (ls.map V.ref)) := by
              rw [upd_ne nlaD.symm]
              exact g1
            have hwl9 : (upd H8 la (.lst ((row.map V.int).set c (V.int r)))) wl = some (.lst (ws.map V.int)) := by
              rw [upd_ne nwla]
              exact hwl8
            have htt9 : (upd H8 la (.lst ((row.map V.int).set c (V.int r)))) tt = some (.dK tkvs) := by
              rw [upd_ne ntla]
              exact htt8
            generalize upd H8 la (.lst ((row.map V.int).set c (V.int r))) = H9 at *
            generalize M.set a (row.set c r) = M2 at *
            obtain ⟨m1', m2', m3', m4'⟩ := r9
            refine ⟨.ref D, rfl, D, rfl, ⟨_, SqL.of hD9⟩, fun F hF => ?_⟩
            refine lc_list (K := K) (a := D) (xs := ls.map V.ref) (fun i H' => i ≤ m ∧ Same H9 H' ∧ ∃ qs : List Addr, H' F = some (.lst (qs.map V.ref)) ∧ qs.length = i ∧ ∀ (n : Nat) (q : Addr), qs[n]? = some q → q ≠ F ∧ ∃ row, M2[n]? = some row ∧ H' q = some (.tup (row.map V.int)))
              ⟨Nat.zero_le _, same_new hF, [], upd_same, rfl, fun n l h => by simp at h⟩ (fun i H' _ ⟨_, s, _⟩ => SqL.of (s _ _ hD9)) ?_ ?_
            · rintro i x H' hx ⟨_, s, qs, q1, q2, q3⟩
              obtain ⟨l, hl, rfl⟩ := ref_at hx
              have him : i < m := by
                have := (List.getElem?_eq_some_iff.mp hl).1
                omega
              obtain ⟨row', u1, u2⟩ := m3' i l hl
              refine ⟨rfl, ?_⟩
              refine ⟨.ref l, rfl, l, _, rfl, .inl ⟨SqL.of (s _ _ u2), fun t2 ht2 => ?_⟩⟩
              have nFt : F ≠ t2 := ne_of_none q1 ht2
              have st2 := same_new (o := .tup (row'.map V.int)) ht2
              refine ⟨_, st2 _ _ q1, by rw [List.length_map]; exact small1000 (by omega), him, fun a o ho => ?_, qs ++ [t2], ?_, by rw [List.length_append, q2]; rfl, fun n l' hn => ?_⟩
              · rw [upd_ne (ne_of_none ho hF)]
                exact st2 _ _ (s _ _ ho)
              · rw [upd_same, List.map_append]
                rfl
              · by_cases hj : n < qs.length
                · rw [List.getElem?_append_left hj] at hn
                  obtain ⟨k1, row2, k3, k4⟩ := q3 n l' hn
                  exact ⟨k1, row2, k3, by rw [upd_ne k1]; exact st2 _ _ k4⟩
                · rw [List.getElem?_append_right (by omega)] at hn
                  have hj0 : n - qs.length = 0 := by
                    have := (List.getElem?_eq_some_iff.mp hn).1
                    simp only [List.length_singleton] at this
                    omega
                  rw [hj0] at hn
                  have eq : t2 = l' := Option.some.inj hn
                  subst eq
                  exact ⟨nFt.symm, row', by rw [show n = i by omega]; exact u1, by rw [upd_ne nFt.symm, upd_same]⟩
            · rintro H10 ⟨_, s10, qs, q1, q2, q3⟩
              rw [List.length_map, g2] at q2
              refine ⟨F, _, rfl, .inl ⟨SqL.of q1, fun t2 ht2 => ?_⟩⟩
              have sT := s10.trans (same_new (o := .tup (qs.map V.ref)) ht2)
              have tb : Tab b (upd H10 t2 (.tup (qs.map V.ref))) t2 m M2 := ⟨qs, upd_same, q2, m1', fun n q' hq' => by
                obtain ⟨_, row2, k3, k4⟩ := q3 n q' hq'
                exact ⟨row2, k3, same_new ht2 _ _ k4⟩, m4'⟩
              have htT := sT _ _ htt9
              have hwT := sT _ _ hwl9
              have dT := d9.sm sT
              generalize upd H10 t2 (.tup (qs.map V.ref)) = HT at *
              refine ⟨.ref tt, rfl, .str kd, rfl, tt, _, rfl, DPut.k (k := .inr kd) htT (small1000 (by omega)), ?_⟩
              have nup : ∀ xs, HT tt ≠ some (.tup xs) := fun xs z => by
                rw [htT] at z
                cases z
              have dF := dT.mut (o := .dK (putK tkvs (.inr kd) (.ref t2))) ftt ntp
              have tabF : TabsAt b m (upd HT tt (.dK (putK tkvs (.inr kd) (.ref t2)))) tt ks (Ms.set j M2) := by
                refine ⟨_, upd_same, putK_nd tnd, ?_, fun n k' hk' => ?_⟩
                · unfold putK
                  split
                  · rw [List.length_map]
                    exact tln
                  · rename_i e
                    exact absurd (by rw [valV_any, y1]; rfl) e
                · by_cases hnj : n = j
                  · subst hnj
                    rw [hkd] at hk'
                    have e := Option.some.inj hk'
                    subst e
                    exact ⟨t2, M2, by rw [valV_put, if_pos rfl], by rw [List.getElem?_set_self (List.getElem?_eq_some_iff.mp y2).1], tb.upd nup⟩
                  · obtain ⟨t', M', k1, k2, k3⟩ := tabs n k' hk'
                    have nkk : ¬ (Sum.inr k' : Key) = Sum.inr kd := fun z => by
                      have z := Sum.inr.inj z
                      rw [z] at hk'
                      exact hnj ((List.getElem?_inj (List.getElem?_eq_some_iff.mp hk').1 ok.nk.nd).mp (hk'.trans hkd.symm))
                    exact ⟨t', M', by rw [valV_put, if_neg nkk]; exact k1, by rw [List.getElem?_set_ne (Ne.symm hnj)]; exact k2, (k3.dr hP dT).upd nup⟩
              have hwF : (upd HT tt (.dK (putK tkvs (.inr kd) (.ref t2)))) wl = some (.lst (ws.map V.int)) := by
                rw [upd_ne nwt]
                exact hwT
              have httF : (upd HT tt (.dK (putK tkvs (.inr kd) (.ref t2)))) tt = some (.dK (putK tkvs (.inr kd) (.ref t2))) := upd_same
              generalize upd HT tt (.dK (putK tkvs (.inr kd) (.ref t2))) = HF at *
              refine fun q' hq' => ?_
              have hOq := dF.sm (same_new (o := .dK []) hq')
              refine ⟨.int b, rfl, .ref o, rfl, o, _, rfl, dget (hOq.st (hP.neD hO) hO) v2, .ref wl, rfl, wl, _, rfl, .inl ⟨SqL.of (same_new hq' _ _ hwF), fun tv htv => ?_⟩⟩
              have st2 := same_new (o := .tup (ws.map V.int)) htv
              refine ⟨.ref o, rfl, o, _, rfl, dget (st2 _ _ (hOq.st (hP.neD hO) hO)) v4, .ref tt, rfl, st2 _ _ upd_same, dict5 b tm tv tk tt, rfl, (by show 5 ≤ 15; decide), ?_⟩
              rw [merge0 (dict5_nd b tm tv tk tt)]
              exact fin HF ws (Ms.set j M2) (dF.mono (by omega)) hwF hwl ok.w tabF (by rw [List.length_set]; exact ok.ml) q' tv hq' htv
          · refine ⟨.ref D, rfl, .int a, rfl, D, _, (a : Int), _, rfl, rfl, SqL.of g1, atI_nat hlaD, .int c, rfl, la, _, (c : Int), _, rfl, rfl, SqL.of hla8, atI_nat hzv, ?_⟩
            refine ⟨.ref D, rfl, .int a, rfl, D, _, (a : Int), _, rfl, rfl, SqL.of g1, atI_nat hlaD, .int c, rfl, la, _, (c : Int), c, rfl, rfl, hla8, ixN_at (by rw [List.length_map]; omega), ?_⟩
            have hy : TOk b zv := hz
            have d9 := d08.mut (o := .lst ((row.map V.int).set c (V.int zv))) fla nlp
            have r9 := rw8.put (c := c) (y := zv) g3 hla hra hy
            have hD9 : (upd H8 la (.lst ((row.map V.int).set c (V.int zv)))) D = some (.lst (ls.map V.ref)) := by
              rw [upd_ne nlaD.symm]
              exact g1
            have hwl9 : (upd H8 la (.lst ((row.map V.int).set c (V.int zv)))) wl = some (.lst (ws.map V.int)) := by
              rw [upd_ne nwla]
              exact hwl8
            have htt9 : (upd H8 la (.lst ((row.map V.int).set c (V.int zv)))) tt = some (.dK tkvs) := by
              rw [upd_ne ntla]
              exact htt8
            generalize upd H8 la (.lst ((row.map V.int).set c (V.int zv))) = H9 at *
            generalize M.set a (row.set c zv) = M2 at *
            obtain ⟨m1', m2', m3', m4'⟩ := r9
            refine ⟨.ref D, rfl, D, rfl, ⟨_, SqL.of hD9⟩, fun F hF => ?_⟩
            refine lc_list (K := K) (a := D) (xs := ls.map V.ref) (fun i H' => i ≤ m ∧ Same H9 H' ∧ ∃ qs : List Addr, H' F = some (.lst (qs.map V.ref)) ∧ qs.length = i ∧ ∀ (n : Nat) (q : Addr), qs[n]? = some q → q ≠ F ∧ ∃ row, M2[n]? = some row ∧ H' q = some (.tup (row.map V.int)))
              ⟨Nat.zero_le _, same_new hF, [], upd_same, rfl, fun n l h => by simp at h⟩ (fun i H' _ ⟨_, s, _⟩ => SqL.of (s _ _ hD9)) ?_ ?_
            · rintro i x H' hx ⟨_, s, qs, q1, q2, q3⟩
              obtain ⟨l, hl, rfl⟩ := ref_at hx
              have him : i < m := by
                have := (List.getElem?_eq_some_iff.mp hl).1
                omega
              obtain ⟨row', u1, u2⟩ := m3' i l hl
              refine ⟨rfl, ?_⟩
              refine ⟨.ref l, rfl, l, _, rfl, .inl ⟨SqL.of (s _ _ u2), fun t2 ht2 => ?_⟩⟩
              have nFt : F ≠ t2 := ne_of_none q1 ht2
              have st2 := same_new (o := .tup (row'.map V.int)) ht2
              refine ⟨_, st2 _ _ q1, by rw [List.length_map]; exact small1000 (by omega), him, fun a o ho => ?_, qs ++ [t2], ?_, by rw [List.length_append, q2]; rfl, fun n l' hn => ?_⟩
              · rw [upd_ne (ne_of_none ho hF)]
                exact st2 _ _ (s _ _ ho)
              · rw [upd_same, List.map_append]
                rfl
              · by_cases hj : n < qs.length
                · rw [List.getElem?_append_left hj] at hn
                  obtain ⟨k1, row2, k3, k4⟩ := q3 n l' hn
                  exact ⟨k1, row2, k3, by rw [upd_ne k1]; exact st2 _ _ k4⟩
                · rw [List.getElem?_append_right (by omega)] at hn
                  have hj0 : n - qs.length = 0 := by
                    have := (List.getElem?_eq_some_iff.mp hn).1
                    simp only [List.length_singleton] at this
                    omega
                  rw [hj0] at hn
                  have eq : t2 = l' := Option.some.inj hn
                  subst eq
                  exact ⟨nFt.symm, row', by rw [show n = i by omega]; exact u1, by rw [upd_ne nFt.symm, upd_same]⟩
            · rintro H10 ⟨_, s10, qs, q1, q2, q3⟩
              rw [List.length_map, g2] at q2
              refine ⟨F, _, rfl, .inl ⟨SqL.of q1, fun t2 ht2 => ?_⟩⟩
              have sT := s10.trans (same_new (o := .tup (qs.map V.ref)) ht2)
              have tb : Tab b (upd H10 t2 (.tup (qs.map V.ref))) t2 m M2 := ⟨qs, upd_same, q2, m1', fun n q' hq' => by
                obtain ⟨_, row2, k3, k4⟩ := q3 n q' hq'
                exact ⟨row2, k3, same_new ht2 _ _ k4⟩, m4'⟩
              have htT := sT _ _ htt9
              have hwT := sT _ _ hwl9
              have dT := d9.sm sT
              generalize upd H10 t2 (.tup (qs.map V.ref)) = HT at *
              refine ⟨.ref tt, rfl, .str kd, rfl, tt, _, rfl, DPut.k (k := .inr kd) htT (small1000 (by omega)), ?_⟩
              have nup : ∀ xs, HT tt ≠ some (.tup xs) := fun xs z => by
                rw [htT] at z
                cases z
              have dF := dT.mut (o := .dK (putK tkvs (.inr kd) (.ref t2))) ftt ntp
              have tabF : TabsAt b m (upd HT tt (.dK (putK tkvs (.inr kd) (.ref t2)))) tt ks (Ms.set j M2) := by
                refine ⟨_, upd_same, putK_nd tnd, ?_, fun n k' hk' => ?_⟩
                · unfold putK
                  split
                  · rw [List.length_map]
                    exact tln
                  · rename_i e
                    exact absurd (by rw [valV_any, y1]; rfl) e
                · by_cases hnj : n = j
                  · subst hnj
                    rw [hkd] at hk'
                    have e := Option.some.inj hk'
                    subst e
                    exact ⟨t2, M2, by rw [valV_put, if_pos rfl], by rw [List.getElem?_set_self (List.getElem?_eq_some_iff.mp y2).1], tb.upd nup⟩
                  · obtain ⟨t', M', k1, k2, k3⟩ := tabs n k' hk'
                    have nkk : ¬ (Sum.inr k' : Key) = Sum.inr kd := fun z => by
                      have z := Sum.inr.inj z
                      rw [z] at hk'
                      exact hnj ((List.getElem?_inj (List.getElem?_eq_some_iff.mp hk').1 ok.nk.nd).mp (hk'.trans hkd.symm))
                    exact ⟨t', M', by rw [valV_put, if_neg nkk]; exact k1, by rw [List.getElem?_set_ne (Ne.symm hnj)]; exact k2, (k3.dr hP dT).upd nup⟩
              have hwF : (upd HT tt (.dK (putK tkvs (.inr kd) (.ref t2)))) wl = some (.lst (ws.map V.int)) := by
                rw [upd_ne nwt]
                exact hwT
              have httF : (upd HT tt (.dK (putK tkvs (.inr kd) (.ref t2)))) tt = some (.dK (putK tkvs (.inr kd) (.ref t2))) := upd_same
              generalize upd HT tt (.dK (putK tkvs (.inr kd) (.ref t2))) = HF at *
              refine fun q' hq' => ?_
              have hOq := dF.sm (same_new (o := .dK []) hq')
              refine ⟨.int b, rfl, .ref o, rfl, o, _, rfl, dget (hOq.st (hP.neD hO) hO) v2, .ref wl, rfl, wl, _, rfl, .inl ⟨SqL.of (same_new hq' _ _ hwF), fun tv htv => ?_⟩⟩
              have st2 := same_new (o := .tup (ws.map V.int)) htv
              refine ⟨.ref o, rfl, o, _, rfl, dget (st2 _ _ (hOq.st (hP.neD hO) hO)) v4, .ref tt, rfl, st2 _ _ upd_same, dict5 b tm tv tk tt, rfl, (by show 5 ≤ 15; decide), ?_⟩
              rw [merge0 (dict5_nd b tm tv tk tt)]
              exact fin HF ws (Ms.set j M2) (dF.mono (by omega)) hwF hwl ok.w tabF (by rw [List.length_set]; exact ok.ml) q' tv hq' htv
end
end OG
set_option Elab.async false
set_option linter.all false
set_option maxRecDepth 100000
set_option maxHeartbeats 8000000
namespace OG
open PySem PySem.Spec PyProof.Rows L2
section
variable {P : Program} {w : World} {K : PySem.W.Frag} {mg : Str → Option Value} {base : Heap}
def spOther : Sp := fun vs H Q _ => ∃ (p o mn : Addr) (k : Nat) (b : Int) (m : Nat) (ms ks : List Str) (ws : List Int) (Ms : List (List (List Int))) (ab : Bool) (xs : List Nat), vs = [.ref p, .ref o, .ref mn, .bl ab] ∧ Pot (k + 1000) H p ∧ BookAt H o b m ms ws ks Ms ∧ BkOk b m ms ws ks Ms ∧
  H mn = some (.lst (xs.map fun (n : Nat) => V.int (n : Int))) ∧ mn ≠ p ∧ 1 ≤ xs.length ∧ xs.length ≤ 10 ∧ (∀ n ∈ xs, 1 ≤ n ∧ n ≤ 4) ∧
  ∀ (q : Addr) (m' : Nat) (ms' : List Str) (ws' : List Int) (Ms' : List (List (List Int))) (H' : Hp), Dr p k H H' → BookAt H' q b m' ms' ws' ks Ms' → BkOk b m' ms' ws' ks Ms' → Q (.ref q) H'
theorem ok_l_book_other (T : Txt K mg) : FnOk P w K mg base CX0 5 T.f_l_book_other T.fd_l_book_other ["pot", "own", "manys", "is_above"] (spOther) := by
  refine T.F_l_book_other.ok sc_l_book_other (fun vs H Q E h => ?_) (fun cdv A outer s H vs Q E hr h => ?_)
  · obtain ⟨p, o, mn, k, b, m, ms, ks, ws, Ms, ab, xs, rfl, _⟩ := h
    rfl
  · obtain ⟨p, o, mn, k, b, m, ms, ks, ws, Ms, ab, xs, rfl, hP, hB, ok, hmn, nmp, x1, x10, hxs, q⟩ := h
    refine ⟨_, (pss_cons (ps_set (i := 4) sc_l_book_other.nd rfl (Or.inl rfl) (pe_call (ok_l_take T) (hr.mono (by decide)) (by rfl) T.g_l_take T.F_l_take.kp T.b_l_take .nil pass0 (pa_cons (pv 0) (pa_cons pe_int pa_nil))))
  (pss_cons (ps_if (pt_cmpR op_lt (pv 4) pe_int (nomark _)) (pss_one (ps_ret (pe_call (ok_l_book_renamed T) (hr.mono (by decide)) (by rfl) T.g_l_book_renamed T.F_l_book_renamed.kp T.b_l_book_renamed .nil pass0 (pa_cons (pv 0) (pa_cons (pv 1) pa_nil))))) pss_nil)
  (pss_cons (ps_if (pt_cmpR op_eq (pv 4) pe_int (nomark _)) (pss_one (ps_ret (pe_call (ok_l_book_split T) (hr.mono (by decide)) (by rfl) T.g_l_book_split T.F_l_book_split.kp T.b_l_book_split .nil pass0 (pa_cons (pv 0) (pa_cons (pv 1) (pa_cons (pv 3) pa_nil)))))) pss_nil)
  (pss_cons (ps_if (pt_cmpR op_eq (pv 4) pe_int (nomark _)) (pss_one (ps_ret (pe_call (ok_l_book_renamed T) (hr.mono (by decide)) (by rfl) T.g_l_book_renamed T.F_l_book_renamed.kp T.b_l_book_renamed .nil pass0 (pa_cons (pv 0) (pa_cons (pe_call (ok_l_book_split T) (hr.mono (by decide)) (by rfl) T.g_l_book_split T.F_l_book_split.kp T.b_l_book_split .nil pass0 (pa_cons (pv 0) (pa_cons (pv 1) (pa_cons (pv 3) pa_nil)))) pa_nil))))) pss_nil)
  (pss_cons (ps_if (pt_cmpR op_eq (pv 4) pe_int (nomark _)) (pss_one (ps_ret (pe_call (ok_l_book_renamed T) (hr.mono (by decide)) (by rfl) T.g_l_book_renamed T.F_l_book_renamed.kp T.b_l_book_renamed .nil pass0 (pa_cons (pv 0) (pa_cons (pe_call (ok_l_book_changed T) (hr.mono (by decide)) (by rfl) T.g_l_book_changed T.F_l_book_changed.kp T.b_l_book_changed .nil pass0 (pa_cons (pv 0) (pa_cons (pv 1) pa_nil))) pa_nil))))) pss_nil)
  (pss_cons (ps_if (pt_cmpR op_eq (pv 4) pe_int (nomark _)) (pss_one (ps_ret (pe_call (ok_l_book_of T) (hr.mono (by decide)) (by rfl) T.g_l_book_of T.F_l_book_of.kp T.b_l_book_of .nil pass0 (pa_cons (pv 0) (pa_cons (pe_dget (hu_of hr) (pv 1) pe_str (fun _ _ => rfl)) (pa_cons (pe_call (ok_l_of T) (hr.mono (by decide)) (by rfl) T.g_l_of T.F_l_of.kp T.b_l_of .nil pass0 (pa_cons (pv 0) (pa_cons (pv 2) pa_nil))) (pa_cons (pe_dget (hu_of hr) (pv 1) pe_str (fun _ _ => rfl)) (pa_cons (pv 3) pa_nil)))))))) pss_nil)
  (pss_one (ps_ret (pv 1))))))))), ?_⟩
    refine ⟨.ref p, rfl, p, 7, k + 999, rfl, hP, by decide, by decide, fun way H1 _ _ d1 => ?_⟩
    have hB1 := hB.dr hP d1
    refine ⟨.int way, rfl, _, _, rfl, rfl, _, rfl, ite2 (fun _ => ?_) (fun _ => ?_)⟩
    · refine ⟨.ref p, rfl, .ref o, rfl, p, o, k + 500, b, m, ms, ks, ws, Ms, rfl, d1.2.mono (by omega), hB1, ok, fun q' ms' ws' Ms' H2 d2 _ _ bk ok' => ?_⟩
      exact q q' m ms' ws' Ms' H2 ((d1.trans d2).mono (by omega)) bk ok'
    refine ⟨.int way, rfl, rfl, _, rfl, ite2 (fun _ => ?_) (fun _ => ?_)⟩
    · refine ⟨.ref p, rfl, .ref o, rfl, .bl ab, rfl, p, o, k + 500, b, m, ms, ks, ws, Ms, ab, rfl, d1.2.mono (by omega), hB1, ok, fun q' m' ms' ws' Ms' H2 d2 bk ok' => ?_⟩
      exact q q' m' ms' ws' Ms' H2 ((d1.trans d2).mono (by omega)) bk ok'
    refine ⟨.int way, rfl, rfl, _, rfl, ite2 (fun _ => ?_) (fun _ => ?_)⟩
    · refine ⟨.ref p, rfl, .ref p, rfl, .ref o, rfl, .bl ab, rfl, p, o, k + 500, b, m, ms, ks, ws, Ms, ab, rfl, d1.2.mono (by omega), hB1, ok, fun q' m' ms' ws' Ms' H2 d2 bk ok' => ?_⟩
      refine ⟨p, q', k + 200, b, m', ms', ks, ws', Ms', rfl, d2.2.mono (by omega), bk, ok', fun q2 ms2 ws2 Ms2 H3 d3 _ _ bk2 ok2 => ?_⟩
      exact q q2 m' ms2 ws2 Ms2 H3 (((d1.trans d2).trans d3).mono (by omega)) bk2 ok2
    refine ⟨.int way, rfl, rfl, _, rfl, ite2 (fun _ => ?_) (fun _ => ?_)⟩
    · refine ⟨.ref p, rfl, .ref p, rfl, .ref o, rfl, p, o, k + 500, b, m, ms, ks, ws, Ms, rfl, d1.2.mono (by omega), hB1, ok, fun q' ws' Ms' H2 d2 bk ok' => ?_⟩
      refine ⟨p, q', k + 200, b, m, ms, ks, ws', Ms', rfl, d2.2.mono (by omega), bk, ok', fun q2 ms2 ws2 Ms2 H3 d3 _ _ bk2 ok2 => ?_⟩
      exact q q2 m ms2 ws2 Ms2 H3 (((d1.trans d2).trans d3).mono (by omega)) bk2 ok2
    refine ⟨.int way, rfl, rfl, _, rfl, ite2 (fun _ => ?_) (fun _ => ?_)⟩
    · obtain ⟨kvs, tm, tw, tk, td, hO, hl10, v1, v2, hT2, v3, hT3, v4, hT4, v5, tkvs, hTd, tnd, tln, tabs⟩ := id hB1
      refine ⟨.ref p, rfl, .ref o, rfl, o, _, rfl, dget hO v1, ?_⟩
      refine ⟨.ref p, rfl, .ref mn, rfl, p, mn, _, k + 900, rfl, d1.2.mono (by omega), SqL.of (d1.st nmp hmn), nmp, by rw [List.length_map]; omega, by rw [List.length_map]; omega, fun j x H2 hx d2 => ?_⟩
      obtain ⟨n, hn, rfl⟩ := nat_at hx
      obtain ⟨n1, n4⟩ := hxs n hn
      have hB2 := hB1.dr d1.2 d2
      obtain ⟨kvs2, tm2, tw2, tk2, td2, hO2, _, _, _, _, _, _, w4, hT42, _⟩ := id hB2
      refine ⟨.ref o, rfl, o, _, rfl, dget hO2 w4, .bl ab, rfl, p, tk2, b, n, k + 300, ab, ks, rfl, d2.2.mono (by omega), ok.b0, ok.b1, ok.b97, n1, n4, hT42, ok.nk, ok.k1, ok.k3, fun q' ms' ws' Ms' H3 d3 _ _ bk ok' => ?_⟩
      exact q q' n ms' ws' Ms' H3 (((d1.trans d2).trans d3).mono (by omega)) bk ok'
    · exact ⟨_, rfl, q o m ms ws Ms H1 (d1.mono (by omega)) hB1 ok⟩
end
end OG
set_option Elab.async false
set_option linter.all false
set_option maxRecDepth 100000
set_option maxHeartbeats 4000000
namespace OG
open PySem PySem.Spec PyProof.Rows L2
def istr (i : Int) : Str := Str.ofString (toString i)
theorem istr_len {i : Int} (h1 : -1000000000000 ≤ i) (h2 : i ≤ 1000000000000) : (istr i).length ≤ 14 := by
  by_cases h : i < 0
  · unfold istr
    rw [len_text_neg h]
    have := toString_length_le (v := 0 - i) (by omega) (k := 13) (by decide) (by omega)
    omega
  · have := toString_length_le (v := i) (by omega) (k := 13) (by decide) (by omega)
    unfold istr
    omega
theorem small_log {i : Int} (h1 : -1000000000000 ≤ i) (h2 : i ≤ 1000000000000) : i.natAbs.log2 < 1920 := PySem.Flt.log2_lt_of (by decide) (Nat.lt_of_le_of_lt (show i.natAbs ≤ 1000000000000 by omega) (Nat.lt_of_lt_of_le (show 1000000000000 < 2 ^ 60 by decide) (Nat.pow_le_pow_right (by decide) (by decide))))
theorem app_len (a b : Str) : (a ++ b).length = a.length + b.length := by
  rw [TL.len_tl, TL.tl_append, List.length_append, TL.len_tl, TL.len_tl]
theorem joinL_len (S : List Nat) : ∀ ls : List (List Nat), (TL.joinL S ls).length ≤ (ls.map fun l => l.length + S.length).sum
  | [] => Nat.zero_le _
  | [p] => by
    show p.length ≤ _
    simp
  | p :: q :: r => by
    show (p ++ (S ++ TL.joinL S (q :: r))).length ≤ _
    have ih := joinL_len S (q :: r)
    rw [List.length_append, List.length_append, List.map_cons, List.sum_cons]
    omega
theorem join_len (a : Str) (ys : List Str) : (Txt.join a ys).length ≤ (ys.map fun y => y.length + a.length).sum := by
  have e := (congrArg TL.tl (TL.join_eq a ys)).trans (TL.tl_join a ys)
  rw [TL.len_tl, e]
  refine Nat.le_trans (joinL_len _ _) ?_
  rw [List.map_map]
  exact Nat.le_refl _
theorem sum_le {α : Type} {f : α → Nat} {c : Nat} : ∀ {ys : List α}, (∀ y ∈ ys, f y ≤ c) → (ys.map f).sum ≤ ys.length * c
  | [], _ => Nat.zero_le _
  | y :: r, h => by
    have ih := sum_le (ys := r) fun z hz => h z (List.mem_cons_of_mem _ hz)
    have hy := h y List.mem_cons_self
    rw [List.map_cons, List.sum_cons, List.length_cons, Nat.add_mul]
    omega
theorem join_le {a : Str} {ys : List Str} {c n : Nat} (h : ∀ y ∈ ys, y.length ≤ c) (hn : ys.length ≤ n) (ha : a.length = 1) : (Txt.join a ys).length ≤ n * (c + 1) := by
  refine Nat.le_trans (join_len a ys) (Nat.le_trans (sum_le (c := c + 1) fun y hy => ?_) (Nat.mul_le_mul_right _ hn))
  have := h y hy
  omega
/-- what join's rule asks -/
theorem join_ok {a : Str} {ys : List Str} {c n : Nat} (h : ∀ y ∈ ys, y.length ≤ c) (hn : ys.length ≤ n) (ha : a.length = 1) (hb : n * (c + 1) ≤ 16777216) : (ys.map (·.length)).sum + ys.length * a.length ≤ 16777216 := by
  have e := sum_le (f := fun y : Str => y.length) h
  have e2 : ys.length * (c + 1) ≤ n * (c + 1) := Nat.mul_le_mul_right _ hn
  rw [Nat.mul_add, Nat.mul_one] at e2
  rw [ha]
  omega
def markL (z : Str) (w : Int) : Str := "mark " ++ z ++ " " ++ istr w
def rowL (row : List Int) : Str := Txt.join " " (row.map istr)
def kindL (k : Str) (M : List (List Int)) : Str := "kind " ++ k ++ " " ++ Txt.join " " (M.map rowL)
def bookLines (b : Int) (ms : List Str) (ws : List Int) (ks : List Str) (Ms : List (List (List Int))) : List Str := ("book " ++ istr b) :: (List.zipWith markL ms ws ++ List.zipWith kindL ks Ms)
def bookText (b : Int) (ms : List Str) (ws : List Int) (ks : List Str) (Ms : List (List (List Int))) : Str := Txt.join "\n" (bookLines b ms ws ks Ms)
theorem markL_len {z : Str} {w : Int} (hz : z.length ≤ 4) (h1 : -1000000000000 ≤ w) (h2 : w ≤ 1000000000000) : (markL z w).length ≤ 24 := by
  have := istr_len h1 h2
  unfold markL
  rw [app_len, app_len, app_len]
  show 5 + z.length + 1 + _ ≤ _
  omega
theorem rowL_len {row : List Int} (h : ∀ z ∈ row, -1000000000000 ≤ z ∧ z ≤ 1000000000000) (hl : row.length ≤ 4) : (rowL row).length ≤ 60 := by
  refine join_le (c := 14) (n := 4) (fun y hy => ?_) (by rw [List.length_map]; exact hl) rfl
  obtain ⟨z, hz, rfl⟩ := List.mem_map.mp hy
  exact istr_len (h z hz).1 (h z hz).2
theorem rows_len {M : List (List Int)} (h : ∀ row ∈ M, row.length ≤ 4 ∧ ∀ z ∈ row, -1000000000000 ≤ z ∧ z ≤ 1000000000000) (hl : M.length ≤ 4) : (Txt.join " " (M.map rowL)).length ≤ 244 := by
  refine join_le (c := 60) (n := 4) (fun y hy => ?_) (by rw [List.length_map]; exact hl) rfl
  obtain ⟨row, hr, rfl⟩ := List.mem_map.mp hy
  exact rowL_len (h row hr).2 (h row hr).1
theorem kindL_len {k : Str} {M : List (List Int)} (hk : k.length ≤ 4) (h : ∀ row ∈ M, row.length ≤ 4 ∧ ∀ z ∈ row, -1000000000000 ≤ z ∧ z ≤ 1000000000000) (hl : M.length ≤ 4) : (kindL k M).length ≤ 254 := by
  have := rows_len h hl
  unfold kindL
  rw [app_len, app_len, app_len]
  show 5 + k.length + 1 + _ ≤ _
  omega
end OG
set_option Elab.async false
set_option linter.all false
set_option maxRecDepth 100000
set_option maxHeartbeats 8000000
namespace OG
open PySem PySem.Spec PyProof.Rows L2
open RZ (ItzT pi_zipA iZipA for_zipT)
theorem take_more {α : Type} {l : List α} {i : Nat} {x : α} (h : l[i]? = some x) : l.take (i + 1) = l.take i ++ [x] := by
  rw [List.take_add_one, h]
  rfl
theorem zw_at {α β γ : Type} {f : α → β → γ} {xs : List α} {ys : List β} {i : Nat} {x : α} {y : β} (h1 : xs[i]? = some x) (h2 : ys[i]? = some y) : (List.zipWith f xs ys)[i]? = some (f x y) := by
  rw [List.getElem?_zipWith, h1, h2]
theorem szl {n : Nat} (h : n ≤ 16000000) : n ≤ sizeLine := Nat.le_trans h (by decide)
section
variable {P : Program} {w : World} {K : PySem.W.Frag} {mg : Str → Option Value} {base : Heap}
def spText : Sp := fun vs H Q _ => ∃ (o : Addr) (b : Int) (m : Nat) (ms ks : List Str) (ws : List Int) (Ms : List (List (List Int))), vs = [.ref o] ∧ BookAt H o b m ms ws ks Ms ∧ BkOk b m ms ws ks Ms ∧
  ∀ (H' : Hp), Same H H' → Q (.str (bookText b ms ws ks Ms)) H'
theorem ok_l_book_text (T : Txt K mg) : FnOk P w K mg base CX0 1 T.f_l_book_text T.fd_l_book_text ["own"] (spText) := by
  refine T.F_l_book_text.ok sc_l_book_text (fun vs H Q E h => ?_) (fun cdv A outer s H vs Q E hr h => ?_)
  · obtain ⟨o, b, m, ms, ks, ws, Ms, rfl, _⟩ := h
    rfl
  · obtain ⟨o, b, m, ms, ks, ws, Ms, rfl, hB, ok, q⟩ := h
    refine ⟨_, (pss_cons (ps_set (i := 1) sc_l_book_text.nd rfl (Or.inl rfl) (pe_lst (pa_cons (pe_op op_add_str pe_str (pe_callTy call_str_int (by rfl) T.n_str (by decide +kernel) (pa_cons (pe_callTy call_int1 (by rfl) T.n_int (by decide +kernel) (pa_cons (pe_dget (hu_of hr) (pv 0) pe_str (fun _ _ => rfl)) pa_nil)) pa_nil))) pa_nil)))
  (pss_cons (ps_for PassesOwn.never rfl (RZ.pi_zipA (by rfl) T.n_zip (pa_cons (pe_dget (hu_of hr) (pv 0) pe_str (fun _ _ => rfl)) (pa_cons (pe_dget (hu_of hr) (pv 0) pe_str (fun _ _ => rfl)) pa_nil))) (pg_tup (by rfl) (pgs_cons (pg_name (i := 2) sc_l_book_text.nd rfl (Or.inl rfl)) (pgs_cons (pg_name (i := 3) sc_l_book_text.nd rfl (Or.inl rfl)) pgs_nil))) (pss_one (ps_expr (pe_bm PySem.F.plainAttrs_list PySem.F.slot_list_append PySem.F.type_list_append mt_append (pv 1) (pa_cons (pe_op op_add_str (pe_op op_add_str (pe_op op_add_str pe_str (pv 2)) pe_str) (pe_callTy call_str_int (by rfl) T.n_str (by decide +kernel) (pa_cons (pe_callTy call_int1 (by rfl) T.n_int (by decide +kernel) (pa_cons (pv 3) pa_nil)) pa_nil))) pa_nil)))))
  (pss_cons (ps_for PassesOwn.never rfl (pi_tup (pe_dget (hu_of hr) (pv 0) pe_str (fun _ _ => rfl))) (pg_name (i := 4) sc_l_book_text.nd rfl (Or.inl rfl)) (pss_cons (ps_setLc (i := 5) (own := [("row", 6)]) (g := gName 6) (by rfl) sc_l_book_text.nd rfl rfl (sw_true rfl rfl rfl (by decide +kernel)) (pi_tup (pe_dget (hu_of hr) (pe_dget (hu_of hr) (pv 0) pe_str (fun _ _ => rfl)) (pv 4) (fun _ _ => rfl))) (blkOk_by (own := [("row", 6)]) (by rfl)) (fun _ _ _ _ _ => (pg_name (i := 6) sc_l_book_text.nd rfl (Or.inl rfl))) (fun _ _ _ _ _ => pts_nil) (fun _ _ _ _ _ => (pe_m1 PySem.F.slot_str_join PySem.F.type_str_join (mt_joinK K) pe_str (pe_lc (own := [("n", 7)]) (g := gName 7) (by rfl) sc_l_book_text.nd (pi_tupK K (pv 6)) (blkOk_by (own := [("n", 7)]) (by rfl)) (fun _ _ _ _ _ => (pg_name (i := 7) sc_l_book_text.nd rfl (Or.inl rfl))) (fun _ _ _ _ _ => pts_nil) (fun _ _ _ _ _ => (pe_callTy call_str_int (by rfl) T.n_str (by decide +kernel) (pa_cons (pe_callTy call_int1 (by rfl) T.n_int (by decide +kernel) (pa_cons (pv 7) pa_nil)) pa_nil)))))))
  (pss_one (ps_expr (pe_bm PySem.F.plainAttrs_list PySem.F.slot_list_append PySem.F.type_list_append mt_append (pv 1) (pa_cons (pe_op op_add_str (pe_op op_add_str (pe_op op_add_str pe_str (pv 4)) pe_str) (pe_join pe_str (pv 5))) pa_nil))))))
  (pss_one (ps_ret (pe_join pe_str (pv 1))))))), ?_⟩
    have hm4 := ok.m4
    have hm1 := ok.m1
    have hml := ok.nm.len
    have hwl := ok.wl
    have hk3 := ok.k3
    have hMl := ok.ml
    have hb0 := ok.b0
    have hb97 := ok.b97
    obtain ⟨kvs, tm, tw, tk, td, hO, hl10, v1, v2, hT2, v3, hT3, v4, hT4, v5, tkvs, hTd, tnd, tln, tabs⟩ := id hB
    refine ⟨.ref o, rfl, o, _, rfl, dget hO v1, .inl ⟨b, rfl, ?_⟩⟩
    refine ⟨b, rfl, small_log (by omega) (by omega), ?_⟩
    have lb := istr_len (i := b) (by omega) (by omega)
    refine ⟨_, _, rfl, rfl, szl (Nat.le_trans (Nat.add_le_add_left lb 5) (by decide)), ?_⟩
    refine ⟨(by show 1 ≤ sizeLine; decide), fun L hL => ?_⟩
    have s1 := same_new (o := .lst [.str ("book " ++ istr b)]) hL
    refine ⟨.ref o, rfl, o, _, rfl, dget (s1 _ _ hO) v2, .ref o, rfl, o, _, rfl, dget (s1 _ _ hO) v3, tm, tw, _, _, rfl, .inr ⟨SqT.of (s1 _ _ hT2), SqT.of (s1 _ _ hT3), ?_⟩⟩
    refine for_zipT (K := K) (a := tm) (b := tw) (xs := ms.map V.str) (ys := ws.map V.int) (by rw [List.length_map, List.length_map, hml, hwl]) (fun i σ H' => ∃ v2 v3 v4 v5 v6 v7 : Option V, σ = [some (.ref o), some (.ref L), v2, v3, v4, v5, v6, v7] ∧ i ≤ m ∧ Same H H' ∧ H' L = some (.lst ((("book " ++ istr b) :: (List.zipWith markL ms ws).take i).map V.str)))
      ⟨none, none, none, none, none, none, rfl, Nat.zero_le _, s1, upd_same⟩ (fun i σ H' ⟨_, _, _, _, _, _, _, _, s, _⟩ => ⟨SqT.of (s _ _ hT2), SqT.of (s _ _ hT3)⟩) ?_ ?_
    · rintro i x y T0 σ H' hx hy ⟨u2, u3, u4, u5, u6, u7, rfl, _, s, h1⟩ hT0
      obtain ⟨z, hz, rfl⟩ := str_at hx
      obtain ⟨wt, hwt, rfl⟩ : ∃ wt, ws[i]? = some wt ∧ y = .int wt := by
        rw [List.getElem?_map] at hy
        cases e : ws[i]? with
        | none =>
          rw [e] at hy
          cases hy
        | some wt =>
          rw [e] at hy
          exact ⟨wt, rfl, (Option.some.inj hy).symm⟩
      have him : i < ms.length := (List.getElem?_eq_some_iff.mp hz).1
      obtain ⟨_, w1, w2, _⟩ := ok.w wt (List.mem_of_getElem? hwt)
      have zl := (ok.nm.is z (List.mem_of_getElem? hz)).2.1
      have wl := istr_len w1 w2
      have sT := same_new (o := .tup [.str z, .int wt]) hT0
      have hL' := sT _ _ h1
      refine ⟨T0, _, rfl, SqT.of upd_same, rfl, _, _, rfl, _, _, rfl, rfl, ?_⟩
      refine ⟨.ref L, rfl, .inl ⟨rfl, _, SqL.of hL'⟩, ?_⟩
      refine ⟨.str z, rfl, _, _, rfl, rfl, szl (Nat.le_trans (Nat.add_le_add_left zl 5) (by decide)), ?_⟩
      have l2 : ("mark " ++ z : Str).length ≤ 9 := by
        rw [app_len]
        exact Nat.add_le_add_left zl 5
      refine ⟨_, _, rfl, rfl, szl (Nat.le_trans (Nat.add_le_add_right l2 1) (by decide)), ?_⟩
      have l3 : ("mark " ++ z ++ " " : Str).length ≤ 10 := by
        rw [app_len]
        exact Nat.add_le_add_right l2 1
      refine ⟨.int wt, rfl, .inl ⟨wt, rfl, wt, rfl, small_log w1 w2, ?_⟩⟩
      refine ⟨_, _, rfl, rfl, szl (Nat.le_trans (Nat.add_le_add l3 wl) (by decide)), ?_⟩
      refine ⟨L, _, _, rfl, rfl, hL', ?_, _, _, _, _, _, _, rfl, by omega, fun a u hu => ?_, ?_⟩
      · rw [List.length_map, List.length_cons, List.length_take]
        exact small1000 (by omega)
      · have n : a ≠ L := ne_of_none hu hL
        rw [upd_ne n]
        exact sT _ _ (s _ _ hu)
      · rw [upd_same, take_more (zw_at hz hwt), ← List.cons_append, List.map_append]
        rfl
    · rintro σ H' ⟨u2, u3, u4, u5, u6, u7, rfl, _, s, h1⟩
      have ez : (List.zipWith markL ms ws).take (ms.map V.str).length = List.zipWith markL ms ws := List.take_of_length_le (by rw [List.length_zipWith, List.length_map]; omega)
      rw [ez] at h1
      refine ⟨.ref o, rfl, o, _, rfl, dget (s _ _ hO) v4, tk, rfl, ⟨_, SqT.of (s _ _ hT4)⟩, ?_⟩
      refine for_tup (K := K) (a := tk) (xs := ks.map V.str) (fun i σ H' => ∃ v2 v3 v4 v5 v6 v7 : Option V, σ = [some (.ref o), some (.ref L), v2, v3, v4, v5, v6, v7] ∧ i ≤ ks.length ∧ Same H H' ∧ H' L = some (.lst ((("book " ++ istr b) :: (List.zipWith markL ms ws ++ (List.zipWith kindL ks Ms).take i)).map V.str)))
        ⟨_, _, _, _, _, _, rfl, Nat.zero_le _, s, by rw [List.take_zero, List.append_nil]; exact h1⟩ (fun i σ H' _ ⟨_, _, _, _, _, _, _, _, s, _⟩ => SqT.of (s _ _ hT4)) ?_ ?_
      · rintro i x σ H' hx ⟨u2, u3, u4, u5, u6, u7, rfl, _, s, h1⟩
        obtain ⟨k, hk, rfl⟩ := str_at hx
        have hik : i < ks.length := (List.getElem?_eq_some_iff.mp hk).1
        obtain ⟨t, M, e1, e2, e3⟩ := tabs i k hk
        obtain ⟨rs, t1, t2, t3, t4, t5⟩ := e3
        have kl := (ok.nk.is k (List.mem_of_getElem? hk)).2.1
        have hMb : ∀ row ∈ M, row.length ≤ 4 ∧ ∀ z ∈ row, -1000000000000 ≤ z ∧ z ≤ 1000000000000 := fun row hr => ⟨by rw [(t5 row hr).1]; exact hm4, fun z hz => ⟨((t5 row hr).2 z hz).1, ((t5 row hr).2 z hz).2.1⟩⟩
        refine ⟨.ref o, rfl, o, _, rfl, dget (s _ _ hO) v5, .str k, rfl, td, _, rfl, dget (s _ _ hTd) e1, t, rfl, ⟨_, SqT.of (s _ _ t1)⟩, fun D hD => ?_⟩
        refine lc_tup (K := K) (a := t) (xs := rs.map V.ref) (fun a H2 => a ≤ m ∧ Same H' H2 ∧ H2 D = some (.lst (((M.map rowL).take a).map V.str))) ⟨Nat.zero_le _, same_new hD, upd_same⟩ (fun a H2 _ ⟨_, s2, _⟩ => SqT.of (s2 _ _ (s _ _ t1))) ?_ ?_
        · rintro a x H2 hx ⟨_, s2, g1⟩
          have ham : a < rs.length := by
            have := (List.getElem?_eq_some_iff.mp hx).1
            rwa [List.length_map] at this
          have hr : rs[a]? = some (rs[a]'ham) := List.getElem?_eq_getElem ham
          have ex : x = .ref (rs[a]'ham) := by
            rw [List.getElem?_map, hr] at hx
            exact (Option.some.inj hx).symm
          subst ex
          obtain ⟨row, r1, r2⟩ := t4 a _ hr
          obtain ⟨rl, rb⟩ := t5 row (List.mem_of_getElem? r1)
          refine ⟨rfl, ?_⟩
          refine ⟨⟨_, rfl⟩, _, rfl, _, rfl, ⟨_, SqT.of (s2 _ _ (s _ _ r2))⟩, fun D2 hD2 => ?_⟩
          refine lc_tup (K := K) (a := rs[a]'ham) (xs := row.map V.int) (fun c H3 => c ≤ m ∧ Same H2 H3 ∧ H3 D2 = some (.lst (((row.map istr).take c).map V.str))) ⟨Nat.zero_le _, same_new hD2, upd_same⟩ (fun c H3 _ ⟨_, s3, _⟩ => SqT.of (s3 _ _ (s2 _ _ (s _ _ r2)))) ?_ ?_
          · rintro c x H3 hx ⟨_, s3, f1⟩
            have hcm : c < row.length := by
              have := (List.getElem?_eq_some_iff.mp hx).1
              rwa [List.length_map] at this
            have hz : row[c]? = some (row[c]'hcm) := List.getElem?_eq_getElem hcm
            have ex : x = .int (row[c]'hcm) := by
              rw [List.getElem?_map, hz] at hx
              exact (Option.some.inj hx).symm
            subst ex
            obtain ⟨z1, z2, _⟩ := rb _ (List.mem_of_getElem? hz)
            refine ⟨rfl, ?_⟩
            refine ⟨_, rfl, .inl ⟨_, rfl, _, rfl, small_log z1 z2, ?_⟩⟩
            refine ⟨_, f1, ?_, by omega, fun a u hu => ?_, ?_⟩
            · rw [List.length_map, List.length_take, List.length_map]
              exact small1000 (by omega)
            · rw [upd_ne (ne_of_none hu hD2)]
              exact s3 _ _ hu
            · rw [upd_same, take_more (l := row.map istr) (i := c) (x := istr (row[c]'hcm)) (by rw [List.getElem?_map, hz]; rfl), List.map_append]
              rfl
          · rintro H3 ⟨_, s3, f1⟩
            rw [List.length_map, show row.length = (row.map istr).length by rw [List.length_map], List.take_length] at f1
            refine ⟨_, D2, row.map istr, rfl, rfl, .inl (SqL.of f1), join_ok (c := 14) (n := 4) (fun y hy => ?_) (by rw [List.length_map]; omega) rfl (by decide), ?_⟩
            · obtain ⟨z, hz, rfl⟩ := List.mem_map.mp hy
              exact istr_len (rb z hz).1 (rb z hz).2.1
            refine ⟨_, s3 _ _ g1, ?_, by omega, fun a u hu => ?_, ?_⟩
            · rw [List.length_map, List.length_take, List.length_map]
              exact small1000 (by omega)
            · rw [upd_ne (ne_of_none hu hD)]
              exact s3 _ _ (s2 _ _ hu)
            · rw [upd_same, take_more (l := M.map rowL) (i := a) (x := rowL row) (by rw [List.getElem?_map, r1]; rfl), List.map_append]
              rfl
        · rintro H2 ⟨_, s2, g1⟩
          rw [List.length_map, show rs.length = (M.map rowL).length by rw [List.length_map, t2, t3], List.take_length] at g1
          have hL2 := s2 _ _ h1
          refine ⟨.ref L, rfl, .inl ⟨rfl, _, SqL.of hL2⟩, ?_⟩
          refine ⟨.str k, rfl, _, _, rfl, rfl, szl (Nat.le_trans (Nat.add_le_add_left kl 5) (by decide)), ?_⟩
          have l2 : ("kind " ++ k : Str).length ≤ 9 := by
            rw [app_len]
            exact Nat.add_le_add_left kl 5
          refine ⟨_, _, rfl, rfl, szl (Nat.le_trans (Nat.add_le_add_right l2 1) (by decide)), ?_⟩
          have l3 : ("kind " ++ k ++ " " : Str).length ≤ 10 := by
            rw [app_len]
            exact Nat.add_le_add_right l2 1
          refine ⟨⟨_, rfl⟩, .ref D, rfl, _, D, M.map rowL, rfl, rfl, .inl (SqL.of g1), join_ok (c := 60) (n := 4) (fun y hy => ?_) (by rw [List.length_map]; omega) rfl (by decide), ?_⟩
          · obtain ⟨row, hr, rfl⟩ := List.mem_map.mp hy
            exact rowL_len (hMb row hr).2 (hMb row hr).1
          have jl := rows_len hMb (by omega)
          refine ⟨_, _, rfl, rfl, szl (Nat.le_trans (Nat.add_le_add l3 jl) (by decide)), ?_⟩
          refine ⟨L, _, _, rfl, rfl, hL2, ?_, _, _, _, _, _, _, rfl, by omega, fun a u hu => ?_, ?_⟩
          · rw [List.length_map, List.length_cons, List.length_append, List.length_take, List.length_zipWith]
            exact small1000 (by omega)
          · rw [upd_ne (ne_of_none hu hL)]
            exact s2 _ _ (s _ _ hu)
          · rw [upd_same, take_more (zw_at hk e2)]
            simp only [List.map_append, List.map_cons, List.cons_append, List.append_assoc]
            rfl
      · rintro σ H' ⟨u2, u3, u4, u5, u6, u7, rfl, _, s, h1⟩
        have ez : (List.zipWith kindL ks Ms).take (ks.map V.str).length = List.zipWith kindL ks Ms := List.take_of_length_le (by rw [List.length_zipWith, List.length_map]; omega)
        rw [ez] at h1
        refine ⟨⟨_, rfl⟩, .ref L, rfl, _, L, bookLines b ms ws ks Ms, rfl, rfl, .inl (SqL.of h1), join_ok (c := 254) (n := 20) (fun y hy => ?_) ?_ rfl (by decide), q H' s⟩
        · unfold bookLines at hy
          rcases List.mem_cons.mp hy with rfl | hy
          · rw [app_len]
            exact Nat.le_trans (Nat.add_le_add_left lb 5) (by decide)
          · rcases List.mem_append.mp hy with hy | hy
            · obtain ⟨i, hi⟩ := List.getElem?_of_mem hy
              rw [List.getElem?_zipWith] at hi
              cases e1 : ms[i]? with
              | none =>
                rw [e1] at hi
                cases hi
              | some z =>
                cases e2 : ws[i]? with
                | none =>
                  rw [e1, e2] at hi
                  cases hi
                | some wt =>
                  rw [e1, e2] at hi
                  have ey := Option.some.inj hi
                  obtain ⟨_, w1, w2, _⟩ := ok.w wt (List.mem_of_getElem? e2)
                  rw [← ey]
                  exact Nat.le_trans (markL_len (ok.nm.is z (List.mem_of_getElem? e1)).2.1 w1 w2) (by decide)
            · obtain ⟨i, hi⟩ := List.getElem?_of_mem hy
              rw [List.getElem?_zipWith] at hi
              cases e1 : ks[i]? with
              | none =>
                rw [e1] at hi
                cases hi
              | some k =>
                cases e2 : Ms[i]? with
                | none =>
                  rw [e1, e2] at hi
                  cases hi
                | some M =>
                  rw [e1, e2] at hi
                  have ey := Option.some.inj hi
                  obtain ⟨t, M', a1, a2, a3⟩ := tabs i k e1
                  rw [e2] at a2
                  have eM := Option.some.inj a2
                  subst eM
                  obtain ⟨rs, t1, t2, t3, t4, t5⟩ := a3
                  rw [← ey]
                  exact kindL_len (ok.nk.is k (List.mem_of_getElem? e1)).2.1 (fun row hr => ⟨by rw [(t5 row hr).1]; exact hm4, fun z hz => ⟨((t5 row hr).2 z hz).1, ((t5 row hr).2 z hz).2.1⟩⟩) (by omega)
        · unfold bookLines
          rw [List.length_cons, List.length_append, List.length_zipWith, List.length_zipWith]
          omega
end
end OG
set_option Elab.async false
set_option linter.all false
set_option maxRecDepth 100000
set_option maxHeartbeats 4000000
namespace OG
open PySem PySem.Spec PyProof.Rows L2
open PySem.NumText (AllDigits digitsVal)
abbrev tl (x : Str) : List Nat := x.cps.toList
def figs : List Nat → List Nat
  | 45 :: r => r
  | l => l
theorem figs_neg (r : List Nat) : figs (45 :: r) = r := rfl
theorem figs_pos {c : Nat} {r : List Nat} (h : c ≠ 45) : figs (c :: r) = c :: r := by
  unfold figs
  split
  · rename_i h2
    exact absurd (List.cons.inj h2).1 h
  · rfl
theorem figs_le (l : List Nat) : (figs l).length ≤ l.length := by
  unfold figs
  split
  · simp
  · exact Nat.le_refl _
theorem rp (w : Str) : tl (Txt.removeprefix w "-") = figs (tl w) := by
  have e : Builtin.Str.subAt w "-" 0 = ((tl w).take 1 == [45]) := by
    rw [PySem.StrLaws.subAt_eq, List.drop_zero]
    rfl
  unfold Txt.removeprefix
  rw [e]
  cases h : tl w with
  | nil =>
    show tl (Txt.affix w (if (([] : List Nat) == [45]) = true then _ else none)) = []
    rw [if_neg (by decide)]
    exact h
  | cons c r =>
    by_cases hc : c = 45
    · subst hc
      rw [if_pos (by show ([45] == [45]) = true; decide)]
      have hl : w.length = r.length + 1 := by
        rw [TL.len_tl]
        show (tl w).length = _
        rw [h]
        rfl
      show tl (if ((w.length - 1 == w.length) = true) then w else Builtin.Str.strSub w 1 w.length) = r
      rw [if_neg (by rw [hl]; simp)]
      show (Builtin.Str.strSub w 1 w.length).cps.toList = r
      rw [PySem.StrLaws.strSub_toList]
      show ((tl w).drop 1).take (w.length - 1) = r
      rw [h, hl]
      show r.take (r.length + 1 - 1) = r
      exact List.take_of_length_le (by omega)
    · rw [if_neg (by show ¬ ([c] == [45]) = true; simpa using hc), figs_pos hc]
      exact h
def digs (l : List Nat) : Bool := l.all fun c => decide (48 ≤ c) && decide (c ≤ 57)
theorem digs_all {l : List Nat} (h : digs l = true) : AllDigits l := fun c hc => by
  unfold digs at h
  rw [List.all_eq_true] at h
  have := h c hc
  rw [Bool.and_eq_true, decide_eq_true_eq, decide_eq_true_eq] at this
  exact this
/-- a number of at most n figures, as Python writes it -/
def numQ (n : Nat) (l : List Nat) : Bool := decide (1 ≤ (figs l).length) && decide ((figs l).length ≤ n) && digs (figs l) && !(decide ((figs l).head? = some 48) && !decide (l = [48]))
def numV : List Nat → Int
  | 45 :: r => -((digitsVal r : Nat) : Int)
  | l => ((digitsVal l : Nat) : Int)
theorem numV_neg (r : List Nat) : numV (45 :: r) = -((digitsVal r : Nat) : Int) := rfl
theorem numV_pos {c : Nat} {r : List Nat} (h : c ≠ 45) : numV (c :: r) = ((digitsVal (c :: r) : Nat) : Int) := by
  unfold numV
  split
  · rename_i h2
    exact absurd (List.cons.inj h2).1 h
  · rfl
theorem numV_abs {l : List Nat} (h : l ≠ []) : (numV l).natAbs = digitsVal (figs l) := by
  cases l with
  | nil => exact absurd rfl h
  | cons c r =>
    by_cases hc : c = 45
    · subst hc
      rw [numV_neg, figs_neg]
      omega
    · rw [numV_pos hc, figs_pos hc]
      omega
theorem digitsVal_go : ∀ (l : List Nat) (a : Nat), l.foldl (fun acc c => acc * 10 + (c - 48)) a = a * 10 ^ l.length + digitsVal l
  | [], a => by
    show a = a * 10 ^ 0 + 0
    omega
  | c :: r, a => by
    rw [List.foldl_cons, digitsVal_go r]
    have e : digitsVal (c :: r) = (c - 48) * 10 ^ r.length + digitsVal r := by
      unfold digitsVal
      rw [List.foldl_cons]
      have := digitsVal_go r (0 * 10 + (c - 48))
      rw [this, show 0 * 10 + (c - 48) = c - 48 by omega]
      rfl
    rw [e, List.length_cons, Nat.pow_succ, Nat.add_mul]
    rw [Nat.mul_assoc, Nat.mul_comm 10 (10 ^ r.length)]
    omega
theorem digitsVal_cons (c : Nat) (r : List Nat) : digitsVal (c :: r) = (c - 48) * 10 ^ r.length + digitsVal r := by
  have := digitsVal_go r (0 * 10 + (c - 48))
  show (c :: r).foldl _ 0 = _
  rw [List.foldl_cons, this, show 0 * 10 + (c - 48) = c - 48 by omega]
theorem digitsVal_lt : ∀ {l : List Nat}, AllDigits l → digitsVal l < 10 ^ l.length
  | [], _ => by decide
  | c :: r, h => by
    have ih := digitsVal_lt h.tail
    have hc := h.head
    rw [digitsVal_cons, List.length_cons, Nat.pow_succ]
    have : (c - 48) * 10 ^ r.length ≤ 9 * 10 ^ r.length := Nat.mul_le_mul_right _ (by omega)
    omega
theorem digitsVal_ge {c : Nat} {r : List Nat} (h : AllDigits (c :: r)) (hc : c ≠ 48) : 10 ^ r.length ≤ digitsVal (c :: r) := by
  have := h.head
  rw [digitsVal_cons]
  have : 1 * 10 ^ r.length ≤ (c - 48) * 10 ^ r.length := Nat.mul_le_mul_right _ (by omega)
  omega
structure NumQ (n : Nat) (l : List Nat) : Prop where
  f1 : 1 ≤ (figs l).length
  fn : (figs l).length ≤ n
  all : AllDigits (figs l)
  lead : (figs l).head? = some 48 → l = [48]
theorem numQ_iff {n : Nat} {l : List Nat} : numQ n l = true ↔ NumQ n l := by
  unfold numQ
  rw [Bool.and_eq_true, Bool.and_eq_true, Bool.and_eq_true, decide_eq_true_eq, decide_eq_true_eq]
  constructor
  · rintro ⟨⟨⟨h1, h2⟩, h3⟩, h4⟩
    refine ⟨h1, h2, digs_all h3, fun e => ?_⟩
    rw [e] at h4
    simpa using h4
  · rintro ⟨h1, h2, h3, h4⟩
    refine ⟨⟨⟨h1, h2⟩, ?_⟩, ?_⟩
    · unfold digs
      rw [List.all_eq_true]
      intro c hc
      have := h3 c hc
      simpa using this
    · by_cases e : (figs l).head? = some 48
      · rw [h4 e]
        rfl
      · simp [e]
theorem NumQ.ne {n : Nat} {l : List Nat} (h : NumQ n l) : l ≠ [] := fun e => by
  have := h.f1
  rw [e] at this
  exact absurd this (by decide)
theorem NumQ.lt {n : Nat} {l : List Nat} (h : NumQ n l) : (numV l).natAbs < 10 ^ (figs l).length := by
  rw [numV_abs h.ne]
  exact digitsVal_lt h.all
theorem NumQ.ge {n : Nat} {l : List Nat} (h : NumQ n l) (h2 : 2 ≤ (figs l).length) : 10 ^ ((figs l).length - 1) ≤ (numV l).natAbs := by
  rw [numV_abs h.ne]
  have hl := h.lead
  have ha := h.all
  cases e : figs l with
  | nil =>
    rw [e] at h2
    exact absurd h2 (by decide)
  | cons c r =>
    rw [e] at hl ha h2
    have hc : c ≠ 48 := fun z => by
      have := hl (by rw [z]; rfl)
      rw [this] at e
      have e2 : figs [48] = [48] := rfl
      rw [e2] at e
      have := (List.cons.inj e).2
      rw [← this, List.length_singleton] at h2
      omega
    rw [List.length_cons, Nat.add_sub_cancel]
    exact digitsVal_ge ha hc
theorem NumQ.zero {n : Nat} {l : List Nat} (h : NumQ n l) (h0 : numV l = 0) : l = [48] := by
  have hl := h.lt
  by_cases h2 : 2 ≤ (figs l).length
  · have := h.ge h2
    rw [h0] at this
    have p : 0 < 10 ^ ((figs l).length - 1) := Nat.pow_pos (by decide)
    rw [Int.natAbs_zero] at this
    omega
  · have h1 := h.f1
    have ab := numV_abs h.ne
    rw [h0] at ab
    have hl := h.lead
    have ha := h.all
    cases e : figs l with
    | nil =>
      rw [e] at h1
      exact absurd h1 (by decide)
    | cons c r =>
      rw [e] at hl ha h2 ab
      have er : r = [] := by
        cases r with
        | nil => rfl
        | cons x y =>
          rw [List.length_cons, List.length_cons] at h2
          omega
      subst er
      rw [digitsVal_cons] at ab
      have hc := ha.head
      have : digitsVal [] = 0 := rfl
      rw [this] at ab
      have ec : c = 48 := by
        simp at ab
        omega
      exact hl (by rw [ec]; rfl)
theorem NumQ.mono {n k : Nat} {l : List Nat} (h : NumQ n l) (e : (figs l).length ≤ k) : NumQ k l := ⟨h.f1, e, h.all, h.lead⟩
/-- a number of 14 figures that is small has fewer -/
theorem NumQ.small {n k : Nat} {l : List Nat} (h : NumQ n l) (hk : 1 ≤ k) (hv : (numV l).natAbs < 10 ^ k) : NumQ k l := by
  refine h.mono ?_
  by_cases h2 : 2 ≤ (figs l).length
  · have := h.ge h2
    by_cases e : (figs l).length ≤ k
    · exact e
    · have p : 10 ^ k ≤ 10 ^ ((figs l).length - 1) := Nat.pow_le_pow_right (by decide) (by omega)
      omega
  · omega
theorem intText_num {n : Nat} {w : Str} (h : NumQ n (tl w)) (hw : w.length ≤ 4300) : intText? w = some (numV (tl w)) := by
  have ha := h.all
  cases e : tl w with
  | nil => exact absurd e h.ne
  | cons c r =>
    rw [e] at ha
    by_cases hc : c = 45
    · subst hc
      have h1 := h.f1
      rw [e, figs_neg] at h1
      exact intText_neg e ha (fun z => by rw [z] at h1; exact absurd h1 (by decide)) hw
    · rw [figs_pos hc] at ha
      rw [numV_pos hc, ← e]
      exact intText_digits (by show AllDigits (tl w); rw [e]; exact ha) (by show tl w ≠ []; rw [e]; exact fun z => by cases z) hw
theorem figs_ge (l : List Nat) : l.length ≤ (figs l).length + 1 := by
  cases l with
  | nil => exact Nat.zero_le _
  | cons c r =>
    by_cases hc : c = 45
    · subst hc
      rw [figs_neg]
      exact Nat.le_refl _
    · rw [figs_pos hc]
      omega
theorem NumQ.len {n : Nat} {w : Str} (h : NumQ n (tl w)) : w.length ≤ n + 1 := by
  have h1 := figs_ge (tl w)
  have h2 := h.fn
  rw [TL.len_tl]
  show (tl w).length ≤ _
  omega
end OG
set_option Elab.async false
set_option linter.all false
set_option maxRecDepth 100000
set_option maxHeartbeats 4000000
namespace OG
open PySem PySem.Spec PyProof.Rows L2
theorem lc_signs {x : Str} {te : TE} {sl : Nat} {σ : L2.St} {H1 : Hp} {D : Addr} {Qd : Hp → Prop} (f : Nat → Bool) (hx : x.length ≤ 16000000) (hD : H1 D = none)
    (hte : ∀ (c : Nat) (H' : Hp) (Q' : VK), Q' (.bl (f c)) H' → te ((wipe σ [sl]).set sl (some (.str ⟨#[c]⟩))) H' Q')
    (hw : ∀ v : Option V, wipe ((wipe σ [sl]).set sl v) [sl] = wipe σ [sl])
    (hd : ∀ (H6 : Hp), Same H1 H6 → H6 D = some (.lst (((tl x).map f).map V.bl)) → Qd H6) :
    ∃ W : Nat → Nat → Hp → Prop, (∃ m, W 0 m (upd H1 D (.lst []))) ∧ ∀ i n H, W i n H →
      ((Its x).stop i H ∧ Qd H) ∨ ((Its x).go i H ∧ ∃ Nx : Hp → Prop, (∀ H', Nx H' → ∃ m', m' < n ∧ W (i + 1) m' H') ∧ ∀ y H', (Its x).yld i H y H' → gName sl y (wipe σ [sl]) H' fun σ2 H2 => wipe σ2 [sl] = wipe σ [sl] ∧ tYes σ2 H2 fun b H3 =>
        if b = true then te σ2 H3 fun y H4 => ∃ acc, H4 D = some (.lst acc) ∧ acc.length < sizeLine ∧ Nx (upd H4 D (.lst (acc ++ [y]))) else Nx H3) := by
  have hl : (tl x).length = x.cps.size := Array.length_toList ..
  refine ⟨fun i n H => n = x.cps.size - i ∧ i ≤ x.cps.size ∧ Same H1 H ∧ H D = some (.lst ((((tl x).map f).take i).map V.bl)), ⟨_, rfl, Nat.zero_le _, same_new hD, upd_same⟩, ?_⟩
  rintro i n H ⟨rfl, hi, s, h1⟩
  by_cases hlt : i < x.cps.size
  · refine .inr ⟨hlt, fun H' => Same H1 H' ∧ H' D = some (.lst ((((tl x).map f).take (i + 1)).map V.bl)), fun H' p' => ⟨x.cps.size - (i + 1), by omega, rfl, hlt, p'⟩, fun v H' hy => ?_⟩
    obtain ⟨rfl, c, hc, rfl⟩ := hy
    refine ⟨hw _, ?_⟩
    refine hte c H' _ ?_
    have hc' : (tl x)[i]? = some c := by
      rw [← hc]
      exact Array.getElem?_toList
    refine ⟨_, h1, ?_, fun a o ho => ?_, ?_⟩
    · rw [List.length_map, List.length_take, List.length_map, hl]
      have hx' : x.cps.size ≤ 16000000 := hx
      exact Nat.lt_of_le_of_lt (show _ ≤ 16000000 by omega) (by decide)
    · rw [upd_ne (ne_of_none ho hD)]
      exact s _ _ ho
    · rw [upd_same, take_more (l := (tl x).map f) (i := i) (x := f c) (by rw [List.getElem?_map, hc']; rfl), List.map_append]
      rfl
  · have e : i = x.cps.size := by omega
    subst e
    refine .inl ⟨Nat.le_refl _, hd H s ?_⟩
    rw [List.take_of_length_le (by rw [List.length_map, hl]; exact Nat.le_refl _)] at h1
    exact h1
theorem lc_same {K : PySem.W.Frag} {a : Addr} {xs : List V} {te : TE} {sl : Nat} {σ : L2.St} {H1 : Hp} {D : Addr} {Qd : Hp → Prop} (f : V → V) (hx : xs.length ≤ 16000000) (ha : SqL K H1 a xs) (hD : H1 D = none)
    (hte : ∀ (x : V) (H' : Hp) (Q' : VK), x ∈ xs → Same H1 H' → (∀ H'', Same H' H'' → Q' (f x) H'') → te ((wipe σ [sl]).set sl (some x)) H' Q')
    (hw : ∀ v : Option V, wipe ((wipe σ [sl]).set sl v) [sl] = wipe σ [sl])
    (hd : ∀ (H6 : Hp), Same H1 H6 → H6 D = some (.lst (xs.map f)) → Qd H6) :
    ∃ W : Nat → Nat → Hp → Prop, (∃ m, W 0 m (upd H1 D (.lst []))) ∧ ∀ i n H, W i n H →
      ((Itl K a).stop i H ∧ Qd H) ∨ ((Itl K a).go i H ∧ ∃ Nx : Hp → Prop, (∀ H', Nx H' → ∃ m', m' < n ∧ W (i + 1) m' H') ∧ ∀ y H', (Itl K a).yld i H y H' → gName sl y (wipe σ [sl]) H' fun σ2 H2 => wipe σ2 [sl] = wipe σ [sl] ∧ tYes σ2 H2 fun b H3 =>
        if b = true then te σ2 H3 fun y H4 => ∃ acc, H4 D = some (.lst acc) ∧ acc.length < sizeLine ∧ Nx (upd H4 D (.lst (acc ++ [y]))) else Nx H3) := by
  refine lc_list (K := K) (a := a) (xs := xs) (fun i H' => Same H1 H' ∧ H' D = some (.lst ((xs.map f).take i))) ⟨same_new hD, upd_same⟩ (fun i H' _ ⟨s, _⟩ => s.seq ha) ?_ ?_
  · rintro i x H' hx' ⟨s, h1⟩
    have hi := (List.getElem?_eq_some_iff.mp hx').1
    refine ⟨hw _, ?_⟩
    refine hte x H' _ (List.mem_of_getElem? hx') s fun H'' s2 => ?_
    refine ⟨_, s2 _ _ h1, ?_, fun b o ho => ?_, ?_⟩
    · rw [List.length_take, List.length_map]
      exact Nat.lt_of_le_of_lt (show _ ≤ 16000000 by omega) (by decide)
    · rw [upd_ne (ne_of_none ho hD)]
      exact s2 _ _ (s _ _ ho)
    · rw [upd_same, take_more (l := xs.map f) (i := i) (x := f x) (by rw [List.getElem?_map, hx']; rfl)]
  · rintro H' ⟨s, h1⟩
    rw [List.take_of_length_le (by rw [List.length_map]; exact Nat.le_refl _)] at h1
    exact hd H' s h1
theorem all_id {α : Type} (l : List α) (f : α → Bool) : ((l.map f).all id) = l.all f := by
  rw [List.all_map]
  rfl
def isOf (w s : Str) : Bool := decide (0 < w.length) && (tl w).all fun c => decide (c ∈ tl s)
def fig10 : Str := "0123456789"
theorem fig_mem (c : Nat) : decide (c ∈ tl ("0123456789" : Str)) = (decide (48 ≤ c) && decide (c ≤ 57)) := by
  have e : tl ("0123456789" : Str) = [48, 49, 50, 51, 52, 53, 54, 55, 56, 57] := by decide +kernel
  rw [e]
  by_cases h : 48 ≤ c ∧ c ≤ 57
  · rw [decide_eq_true h.1, decide_eq_true h.2]
    refine decide_eq_true ?_
    rcases (show c = 48 ∨ c = 49 ∨ c = 50 ∨ c = 51 ∨ c = 52 ∨ c = 53 ∨ c = 54 ∨ c = 55 ∨ c = 56 ∨ c = 57 by omega) with e | e | e | e | e | e | e | e | e | e <;> rw [e] <;> decide
  · have : ¬ c ∈ [48, 49, 50, 51, 52, 53, 54, 55, 56, 57] := fun m => h (by
      simp only [List.mem_cons, List.mem_nil_iff, or_false] at m
      omega)
    rw [decide_eq_false this]
    by_cases h1 : 48 ≤ c
    · rw [decide_eq_true h1, decide_eq_false (fun h2 => h ⟨h1, h2⟩)]
      rfl
    · rw [decide_eq_false h1]
      rfl
theorem isOf_fig (w : Str) : isOf w "0123456789" = (decide (0 < (tl w).length) && digs (tl w)) := by
  unfold isOf digs
  rw [TL.len_tl]
  congr 1
  congr 1
  funext c
  exact fig_mem c
def isNmB (n : Nat) (z : Str) : Bool := decide (z.length ≤ n) && isOf z "abcdefghijklmnopqrstuvwxyz"
section
variable {P : Program} {w : World} {K : PySem.W.Frag} {mg : Str → Option Value} {base : Heap}
end
end OG
set_option Elab.async false
set_option linter.all false
set_option maxRecDepth 100000
set_option maxHeartbeats 8000000
namespace OG
open PySem PySem.Spec PyProof.Rows L2
theorem le_line {n : Nat} (h : n ≤ 16000000) : n ≤ sizeLine := Nat.le_trans h (by decide)
theorem starts0 (f : Str) : Txt.startswith f "0" = decide ((tl f).head? = some 48) := by
  unfold Txt.startswith
  rw [PySem.StrLaws.subAt_eq, List.drop_zero]
  have e1 : (("0" : Str).length) = 1 := rfl
  have e2 : (("0" : Str)).cps.toList = [48] := rfl
  rw [e1, e2, TL.len_tl]
  show (decide (0 + 1 ≤ (tl f).length) && (((tl f).take 1) == [48])) = _
  cases h : tl f with
  | nil => rfl
  | cons c r =>
    show (decide (0 + 1 ≤ r.length + 1) && ([c] == [48])) = decide (some c = some 48)
    rw [decide_eq_true (show 0 + 1 ≤ r.length + 1 by omega), Bool.true_and]
    by_cases hc : c = 48
    · rw [hc]
      rfl
    · rw [decide_eq_false (fun z => hc (Option.some.inj z))]
      simpa using hc
def oint (c : Bool) (n : Int) : V := if c then .int n else .non
theorem str_eq {a b : Str} : decide (V.str a = V.str b) = decide (tl a = tl b) := by
  by_cases h : a = b
  · rw [h, decide_eq_true rfl, decide_eq_true rfl]
  · rw [decide_eq_false (fun z => h (V.str.inj z)), decide_eq_false (fun z => h (TL.ext_tl z))]
section
variable {P : Program} {w : World} {K : PySem.W.Frag} {mg : Str → Option Value} {base : Heap}
def spIsOf : Sp := fun vs H Q _ => ∃ (w s : Str), vs = [.str w, .str s] ∧ w.length ≤ 10000000 ∧ ∀ H', Same H H' → Q (.bl (isOf w s)) H'
theorem ok_is_of (T : Txt K mg) : FnOk P w K mg base CX0 1 T.f_is_of T.fd_is_of ["word", "signs"] (spIsOf) := by
  refine T.F_is_of.ok sc_is_of (fun vs H Q E h => ?_) (fun cdv A outer s H vs Q E hr h => ?_)
  · obtain ⟨w, s, rfl, _⟩ := h
    rfl
  · obtain ⟨w, sg, rfl, hl, q⟩ := h
    refine ⟨_, (pss_one (ps_ret (pe_and (pe_cmpR op_gt (pe_callB call_len_str (by rfl) T.n_len PySem.boot_len (pa_cons (pv 0) pa_nil)) pe_int (nomark _)) (pe_one (pe_callB (cr_all rfl) (by rfl) T.n_all (by decide +kernel) (pa_cons (pe_lc (own := [("sign", 2)]) (g := gName 2) (by rfl) sc_is_of.nd (pi_str (pv 0)) (blkOk_by (own := [("sign", 2)]) (by rfl)) (fun _ _ _ _ _ => (pg_name (i := 2) sc_is_of.nd rfl (Or.inl rfl))) (fun _ _ _ _ _ => pts_nil) (fun _ _ _ _ _ => (pe_cmpR op_in_sign (pv 2) (pv 1) rfl))) pa_nil)))))), ?_⟩
    refine ⟨.str w, rfl, w, rfl, le_line (by omega), _, _, rfl, rfl, _, rfl, ?_⟩
    refine ite2 (fun h0 => ?_) (fun h0 => ?_)
    · refine ⟨.str w, rfl, w, rfl, fun D hD => ?_⟩
      refine lc_signs (x := w) (fun c => decide (c ∈ tl sg)) (by omega) hD (fun c H' Q' hq => ?_) (fun _ => rfl) (fun H6 s6 h6 => ?_)
      · exact ⟨_, rfl, .str sg, rfl, c, sg, rfl, rfl, hq⟩
      · refine ⟨D, (tl w).map fun c => decide (c ∈ tl sg), rfl, SqL.of h6, ?_⟩
        rw [all_id]
        have e := q H6 s6
        unfold isOf at e
        have h0 : 0 < (w.length : Int) := of_decide_eq_true h0
        rw [decide_eq_true (show 0 < w.length by omega), Bool.true_and] at e
        exact e
    · have e := q H (Same.refl H)
      unfold isOf at e
      have h0 : ¬ 0 < (w.length : Int) := of_decide_eq_false (Bool.eq_false_iff.mpr h0)
      rw [decide_eq_false (show ¬ 0 < w.length by omega), Bool.false_and] at e
      exact e
def spIsLetters : Sp := fun vs H Q _ => ∃ (w : Str) (n : Nat), vs = [.str w, .int (n : Int)] ∧ w.length ≤ 10000000 ∧ ∀ H', Same H H' → Q (.bl (isNmB n w)) H'
theorem ok_is_letters (T : Txt K mg) : FnOk P w K mg base CX0 2 T.f_is_letters T.fd_is_letters ["word", "most"] (spIsLetters) := by
  refine T.F_is_letters.ok sc_is_letters (fun vs H Q E h => ?_) (fun cdv A outer s H vs Q E hr h => ?_)
  · obtain ⟨w, n, rfl, _⟩ := h
    rfl
  · obtain ⟨w, n, rfl, hl, q⟩ := h
    refine ⟨_, (pss_one (ps_ret (pe_and (pe_cmpR op_le (pe_callB call_len_str (by rfl) T.n_len PySem.boot_len (pa_cons (pv 0) pa_nil)) (pv 1) (nomark _)) (pe_one (pe_call (ok_is_of T) (hr.mono (by decide)) (by rfl) T.g_is_of T.F_is_of.kp T.b_is_of .nil pass0 (pa_cons (pv 0) (pa_cons (C8.pe_gc (by rfl) T.m_LETTERS) pa_nil))))))), ?_⟩
    refine ⟨.str w, rfl, w, rfl, le_line (by omega), .int n, rfl, _, _, rfl, rfl, _, rfl, ?_⟩
    refine ite2 (fun h0 => ?_) (fun h0 => ?_)
    · have h0 : (w.length : Int) ≤ n := of_decide_eq_true h0
      refine ⟨.str w, rfl, w, _, rfl, hl, fun H' s' => ?_⟩
      have e := q H' s'
      unfold isNmB at e
      rw [decide_eq_true (show w.length ≤ n by omega), Bool.true_and] at e
      exact e
    · have h0 : ¬ (w.length : Int) ≤ n := of_decide_eq_false (Bool.eq_false_iff.mpr h0)
      have e := q H (Same.refl H)
      unfold isNmB at e
      rw [decide_eq_false (show ¬ w.length ≤ n by omega), Bool.false_and] at e
      exact e
def spIntOf : Sp := fun vs H Q _ => ∃ (w : Str) (n : Nat), vs = [.str w, .int (n : Int)] ∧ w.length ≤ 10000000 ∧ n ≤ 600 ∧ ∀ H', Same H H' → Q (oint (numQ n (tl w)) (numV (tl w))) H'
theorem ok_integer_of (T : Txt K mg) : FnOk P w K mg base CX0 2 T.f_integer_of T.fd_integer_of ["word", "most"] (spIntOf) := by
  refine T.F_integer_of.ok sc_integer_of (fun vs H Q E h => ?_) (fun cdv A outer s H vs Q E hr h => ?_)
  · obtain ⟨w, n, rfl, _⟩ := h
    rfl
  · obtain ⟨w, n, rfl, hl, hn, q⟩ := h
    refine ⟨_, (pss_cons (ps_set (i := 2) sc_integer_of.nd rfl (Or.inl rfl) (pe_bm PySem.F.plainAttrs_str PySem.F.slot_str_removeprefix PySem.F.type_str_removeprefix mt_removeprefix (pv 0) (pa_cons pe_str pa_nil)))
  (pss_cons (ps_if (PW.pt (pw_or (pt_cmpR op_gt (pe_callB call_len_str (by rfl) T.n_len PySem.boot_len (pa_cons (pv 2) pa_nil)) (pv 1) (nomark _)) (pw_or1 (pt_not (pt_val (pe_call (ok_is_of T) (hr.mono (by decide)) (by rfl) T.g_is_of T.F_is_of.kp T.b_is_of .nil pass0 (pa_cons (pv 2) (pa_cons (C8.pe_gc (by rfl) T.m_FIGURES) pa_nil)))))))) (pss_one (ps_ret pe_non)) pss_nil)
  (pss_cons (ps_if (PW.pt (pw_or (pt_cmpR op_eq (pv 0) pe_str (nomark _)) (pw_or1 (PW.pt (pw_and (pt_val (pe_m1 PySem.F.slot_str_startswith PySem.F.type_str_startswith mt_startswith (pv 2) pe_str)) (pw_and1 (pt_cmpR op_gt (pe_callB call_len_str (by rfl) T.n_len PySem.boot_len (pa_cons (pv 2) pa_nil)) pe_int (nomark _)))))))) (pss_one (ps_ret pe_non)) pss_nil)
  (pss_one (ps_ret (pe_callTy call_int_str (by rfl) T.n_int (by decide +kernel) (pa_cons (pv 0) pa_nil))))))), ?_⟩
    refine ⟨.str w, rfl, rfl, w, _, rfl, rfl, le_line (by omega), ?_⟩
    generalize hf : Txt.removeprefix w "-" = f
    have hft : tl f = figs (tl w) := by rw [← hf]; exact rp w
    have hfl : f.length = (figs (tl w)).length := by rw [TL.len_tl]; exact congrArg List.length hft
    have hfw : f.length ≤ 10000000 := by
      have := figs_le (tl w)
      rw [hfl]
      rw [TL.len_tl] at hl
      exact Nat.le_trans this hl
    have no : ∀ H', Same H H' → numQ n (tl w) = false → Q .non H' := fun H' s' e => by
      have e2 := q H' s'
      rw [e] at e2
      exact e2
    refine ⟨.str f, rfl, f, rfl, le_line (by omega), .int n, rfl, _, _, rfl, rfl, _, rfl, ?_⟩
    refine ite2 (fun h0 => ?_) (fun h0 => ?_)
    · have h0 : (n : Int) < f.length := of_decide_eq_true h0
      refine no H (Same.refl H) ?_
      unfold numQ
      rw [decide_eq_false (show ¬ (figs (tl w)).length ≤ n by omega), Bool.and_false, Bool.false_and, Bool.false_and]
    · have h0 : ¬ (n : Int) < f.length := of_decide_eq_false (Bool.eq_false_iff.mpr h0)
      refine ⟨.str f, rfl, f, _, rfl, hfw, fun H1 s1 => ?_⟩
      rw [isOf_fig, hft]
      refine ⟨_, rfl, ?_⟩
      generalize hc1 : (decide (0 < (figs (tl w)).length) && digs (figs (tl w))) = c1
      cases c1 with
      | false =>
        refine no H1 s1 ?_
        unfold numQ
        rw [Bool.and_eq_false_iff, decide_eq_false_iff_not] at hc1
        rcases hc1 with e | e
        · rw [decide_eq_false (show ¬ 1 ≤ (figs (tl w)).length by omega), Bool.false_and, Bool.false_and, Bool.false_and]
        · rw [e, Bool.and_false, Bool.false_and]
      | true =>
        rw [Bool.and_eq_true, decide_eq_true_eq] at hc1
        have base : numQ n (tl w) = !(decide ((figs (tl w)).head? = some 48) && !decide (tl w = [48])) := by
          unfold numQ
          rw [decide_eq_true (show 1 ≤ (figs (tl w)).length by omega), decide_eq_true (show (figs (tl w)).length ≤ n by omega), hc1.2]
          rfl
        refine ⟨.str w, rfl, rfl, _, rfl, ?_⟩
        rw [str_eq]
        have em : tl ("-0" : Str) = [45, 48] := rfl
        rw [em]
        refine ite2 (fun hm => ?_) (fun hm => ?_)
        · have hm : tl w = [45, 48] := of_decide_eq_true hm
          refine no H1 s1 ?_
          rw [base, hm]
          rfl
        · have hm : ¬ tl w = [45, 48] := of_decide_eq_false (Bool.eq_false_iff.mpr hm)
          refine ⟨.str f, rfl, ⟨_, rfl⟩, f, _, rfl, rfl, _, rfl, ?_⟩
          rw [starts0, hft]
          have fin : ∀ H2, Same H H2 → numQ n (tl w) = true → ∃ (a : Str) (n_1 : Int), [V.str w] = [V.str a] ∧ PySem.intText? a = some n_1 ∧ a.length ≤ 640 ∧ Q (.int n_1) H2 := fun H2 s2 e => by
            have nq := numQ_iff.mp e
            have wl := nq.len
            refine ⟨w, _, rfl, intText_num nq (by omega), by omega, ?_⟩
            have e2 := q H2 s2
            rw [e] at e2
            exact e2
          refine ite2 (fun hs => ?_) (fun hs => ?_)
          · have hs : (figs (tl w)).head? = some 48 := of_decide_eq_true hs
            refine ⟨.str f, rfl, f, rfl, le_line (by omega), _, _, rfl, rfl, _, rfl, ?_⟩
            refine ite2 (fun h2 => ?_) (fun h2 => ?_)
            · have h2 : 1 < (f.length : Int) := of_decide_eq_true h2
              refine no H1 s1 ?_
              rw [base, decide_eq_true hs]
              by_cases e : tl w = [48]
              · rw [e] at hfl
                have : (figs [48]).length = 1 := rfl
                omega
              · rw [decide_eq_false e]
                rfl
            · have h2 : ¬ 1 < (f.length : Int) := of_decide_eq_false (Bool.eq_false_iff.mpr h2)
              refine ⟨_, rfl, fin H1 s1 ?_⟩
              rw [base, decide_eq_true hs]
              have e : tl w = [48] := by
                cases hw : tl w with
                | nil =>
                  rw [hw] at hs
                  cases hs
                | cons c r =>
                  rw [hw] at hs hfl hm
                  by_cases hc : c = 45
                  · subst hc
                    rw [figs_neg] at hs hfl
                    cases r with
                    | nil => cases hs
                    | cons d r' =>
                      have ed : d = 48 := Option.some.inj hs
                      rw [List.length_cons] at hfl
                      have er : r' = [] := List.eq_nil_of_length_eq_zero (by omega)
                      rw [ed, er] at hm
                      exact absurd rfl hm
                  · rw [figs_pos hc] at hs hfl
                    have ed : c = 48 := Option.some.inj hs
                    rw [List.length_cons] at hfl
                    have er : r = [] := List.eq_nil_of_length_eq_zero (by omega)
                    rw [ed, er]
              rw [decide_eq_true e]
              rfl
          · have hs : ¬ (figs (tl w)).head? = some 48 := of_decide_eq_false (Bool.eq_false_iff.mpr hs)
            refine ⟨_, rfl, fin H1 s1 ?_⟩
            rw [base, decide_eq_false hs]
            rfl
def spNum : Sp := fun vs H Q _ => ∃ (w : Str), vs = [.str w] ∧ w.length ≤ 10000000 ∧ ∀ H', Same H H' → Q (oint (numQ 14 (tl w)) (numV (tl w))) H'
theorem cut1_iff (w : Str) : decide (V.str (cutS w none (some 1)) = V.str "-") = decide ((tl w).head? = some 45) := by
  rw [str_eq]
  have e1 : tl (cutS w none (some 1)) = (tl w).take 1 := by
    unfold cutS
    show (((tl w).drop (HT.sIx w.length 0 none)).take (HT.sIx w.length w.length (some ((1 : Nat) : Int)) - HT.sIx w.length 0 none)).toArray.toList = _
    rw [HT.sIx_none, HT.sIx_nat, List.drop_zero, Nat.sub_zero, TL.len_tl]
    show (tl w).take (min 1 (tl w).length) = _
    rw [List.take_eq_take_iff]
    omega
  have e2 : tl ("-" : Str) = [45] := rfl
  rw [e1, e2]
  cases h : tl w with
  | nil => rfl
  | cons c r =>
    by_cases hc : c = 45
    · rw [hc]
      rfl
    · show decide ([c] = [45]) = decide (some c = some 45)
      rw [decide_eq_false (fun z => hc (List.cons.inj z).1), decide_eq_false (fun z => hc (Option.some.inj z))]
theorem cut_tail (w : Str) : tl (cutS w (some 1) none) = (tl w).drop 1 := by
  unfold cutS
  show (((tl w).drop (HT.sIx w.length 0 (some ((1 : Nat) : Int)))).take (HT.sIx w.length w.length none - HT.sIx w.length 0 (some ((1 : Nat) : Int)))).toArray.toList = _
  rw [HT.sIx_none, HT.sIx_nat, TL.len_tl]
  show ((tl w).drop (min 1 (tl w).length)).take ((tl w).length - min 1 (tl w).length) = _
  cases h : tl w with
  | nil => rfl
  | cons c r =>
    rw [List.length_cons, show min 1 (r.length + 1) = 1 by omega, List.drop_succ_cons, List.drop_zero, Nat.add_sub_cancel, List.take_length]
def spIsName : Sp := fun vs H Q _ => ∃ (w : Str), vs = [.str w] ∧ w.length ≤ 10000000 ∧ ∀ H', Same H H' → Q (.bl (isNmB 4 w)) H'
def wokB (b n : Int) : Bool := if b = 0 then decide (-1000000000000 ≤ n) && decide (n ≤ 1000000000000) else decide (0 ≤ n) && decide (n < b)
def spIsWorth : Sp := fun vs H Q _ => ∃ (b n : Int) (c : Bool), vs = [.int b, oint c n] ∧ ∀ H', Same H H' → Q (.bl (c && wokB b n)) H'
theorem abs_le {n : Int} : decide ((if n < 0 then -n else n) ≤ (1000000000000 : Int)) = (decide (-1000000000000 ≤ n) && decide (n ≤ 1000000000000)) := by
  by_cases h : n < 0
  · rw [if_pos h]
    by_cases h2 : -1000000000000 ≤ n
    · rw [decide_eq_true (show -n ≤ 1000000000000 by omega), decide_eq_true h2, decide_eq_true (show n ≤ 1000000000000 by omega)]
      rfl
    · rw [decide_eq_false (show ¬ -n ≤ 1000000000000 by omega), decide_eq_false h2]
      rfl
  · rw [if_neg h, decide_eq_true (show -1000000000000 ≤ n by omega), Bool.true_and]
def spIsNumber : Sp := fun vs H Q _ => ∃ (w : Str) (b : Int), vs = [.str w, .int b] ∧ w.length ≤ 10000000 ∧ 0 ≤ b ∧ b ≤ 97 ∧ ∀ H', Same H H' → Q (.bl (numQ 14 (tl w) && wokB b (numV (tl w)))) H'
theorem num1314 {b : Int} {l : List Nat} (b97 : b ≤ 97) : (numQ 14 l && wokB b (numV l)) = (numQ 13 l && wokB b (numV l)) := by
  cases h : numQ 13 l with
  | true =>
    have := numQ_iff.mp h
    rw [numQ_iff.mpr (this.mono (k := 14) (Nat.le_trans this.fn (by decide)))]
  | false =>
    rw [Bool.false_and]
    cases h2 : numQ 14 l with
    | false => rfl
    | true =>
      rw [Bool.true_and]
      have n14 := numQ_iff.mp h2
      by_cases hw : (numV l).natAbs < 10 ^ 13
      · rw [numQ_iff.mpr (n14.small (by decide) hw)] at h
        cases h
      · have e : (10 : Nat) ^ 13 = 10000000000000 := by decide
        rw [e] at hw
        unfold wokB
        by_cases hb : b = 0
        · rw [if_pos hb, Bool.and_eq_false_iff, decide_eq_false_iff_not, decide_eq_false_iff_not]
          omega
        · rw [if_neg hb, Bool.and_eq_false_iff, decide_eq_false_iff_not, decide_eq_false_iff_not]
          omega
theorem ok_is_number (T : Txt K mg) : FnOk P w K mg base CX0 3 T.f_is_number T.fd_is_number ["word", "by"] (spIsNumber) := by
  refine T.F_is_number.ok sc_is_number (fun vs H Q E h => ?_) (fun cdv A outer s H vs Q E hr h => ?_)
  · obtain ⟨w, b, rfl, _⟩ := h
    rfl
  · obtain ⟨w, b, rfl, hl, b0, b97, q⟩ := h
    refine ⟨_, (pss_cons (ps_set (i := 2) sc_is_number.nd rfl (Or.inl rfl) (pe_call (ok_integer_of T) (hr.mono (by decide)) (by rfl) T.g_integer_of T.F_integer_of.kp T.b_integer_of .nil pass0 (pa_cons (pv 0) (pa_cons pe_int pa_nil))))
  (pss_cons (ps_if (pt_cmpR op_isN (pv 2) pe_non (nomark _)) (pss_one (ps_ret pe_bl)) pss_nil)
  (pss_one (ps_ret (pe_ifExp (pt_cmpR op_gt (pv 1) pe_int (nomark _)) (pe_chain op_le op_lt pe_int (pv 2) (pv 1)) (pe_cmpR op_le (pe_callB call_abs (by rfl) T.n_abs (by decide +kernel) (pa_cons (pv 2) pa_nil)) (C8.pe_gc (by rfl) T.m_GREATEST) (nomark _))))))), ?_⟩
    refine ⟨.str w, rfl, w, 13, rfl, hl, by decide, fun H1 s1 => ?_⟩
    have q := q H1 s1
    rw [num1314 b97] at q
    generalize numV (tl w) = n at *
    cases hc : numQ 13 (tl w) with
    | false =>
      rw [hc] at q
      exact ⟨_, rfl, rfl, _, rfl, q⟩
    | true =>
      rw [hc, Bool.true_and] at q
      unfold wokB at q
      refine ⟨_, rfl, rfl, _, rfl, ?_⟩
      refine ⟨.int b, rfl, _, _, rfl, rfl, _, rfl, ?_⟩
      refine ite2 (fun hb => ?_) (fun hb => ?_)
      · have hb : 0 < b := of_decide_eq_true hb
        rw [if_neg (show ¬ b = 0 by omega)] at q
        refine ⟨.int n, rfl, _, _, rfl, rfl, _, rfl, ?_⟩
        refine ite2 (fun h0 => ?_) (fun h0 => ?_)
        · have h0 : 0 ≤ n := of_decide_eq_true h0
          refine ⟨.int b, rfl, _, _, rfl, rfl, ?_⟩
          rw [decide_eq_true h0, Bool.true_and] at q
          exact q
        · have h0 : ¬ 0 ≤ n := of_decide_eq_false (Bool.eq_false_iff.mpr h0)
          rw [decide_eq_false h0, Bool.false_and] at q
          exact q
      · have hb : ¬ 0 < b := of_decide_eq_false (Bool.eq_false_iff.mpr hb)
        rw [if_pos (show b = 0 by omega)] at q
        refine ⟨.int n, rfl, n, rfl, _, _, rfl, rfl, ?_⟩
        rw [← abs_le] at q
        exact q
end
end OG
set_option Elab.async false
set_option linter.all false
set_option maxRecDepth 100000
set_option maxHeartbeats 4000000
namespace OG
open PySem PySem.Spec PyProof.Rows L2
theorem inV_str (z : Str) (ms : List Str) : inV (.str z) (ms.map V.str) = decide (z ∈ ms) := by
  unfold inV
  rw [List.any_map]
  by_cases h : z ∈ ms
  · rw [decide_eq_true h, List.any_eq_true]
    exact ⟨z, h, by show (z == z) = true; exact beq_self_eq_true z⟩
  · rw [decide_eq_false h, List.any_eq_false]
    intro y hy e
    have e : (y == z) = true := e
    exact h (by rw [← eq_of_beq e]; exact hy)
theorem inV_int (z : Int) (ms : List Int) : inV (.int z) (ms.map V.int) = decide (z ∈ ms) := by
  unfold inV
  rw [List.any_map]
  by_cases h : z ∈ ms
  · rw [decide_eq_true h, List.any_eq_true]
    exact ⟨z, h, by show (z == z) = true; exact beq_self_eq_true z⟩
  · rw [decide_eq_false h, List.any_eq_false]
    intro y hy e
    have e : (y == z) = true := e
    exact h (by rw [← eq_of_beq e]; exact hy)
theorem inV_non (ms : List Int) : inV .non (ms.map V.int) = false := by
  unfold inV
  rw [List.any_map, List.any_eq_false]
  intro y hy e
  cases e
theorem flat_strs (ms : List Str) : (ms.map V.str).all flatV = true := by
  rw [List.all_map, List.all_eq_true]
  intro y _
  rfl
theorem flat_ints (ms : List Int) : (ms.map V.int).all flatV = true := by
  rw [List.all_map, List.all_eq_true]
  intro y _
  rfl
theorem nm_abc {n : Nat} {z : Str} (h : isNmB n z = true) : 0 < z.length ∧ z.length ≤ n ∧ ∀ c ∈ tl z, c ∈ abc := by
  unfold isNmB isOf at h
  rw [Bool.and_eq_true, Bool.and_eq_true, decide_eq_true_eq, decide_eq_true_eq, List.all_eq_true] at h
  refine ⟨h.2.1, h.1, fun c hc => ?_⟩
  have := of_decide_eq_true (h.2.2 c hc)
  rwa [show tl ("abcdefghijklmnopqrstuvwxyz" : Str) = abc from abc_tl] at this
theorem dp_strs {K : PySem.W.Frag} {H : Hp} : ∀ ms : List Str, DpAll K H (ms.map V.str) (ms.map PyData.str)
  | [] => .nil
  | z :: r => .cons (.str z) (dp_strs r)
theorem depth_strs : ∀ ms : List Str, PyData.depthAll (ms.map PyData.str) = 0
  | [] => by simp [PyData.depthAll]
  | z :: r => by
    rw [List.map_cons]
    simp [PyData.depthAll, PyData.depth, depth_strs r]
theorem lay_strs : ∀ {ms : List Str}, (∀ z ∈ ms, PyData.strOk z = true) → PyData.canLayAll0 (ms.map PyData.str) = true
  | [], _ => by simp [PyData.canLayAll0]
  | z :: r, h => by
    rw [List.map_cons]
    simp [PyData.canLayAll0, PyData.canLay0, lay_strs fun y hy => h y (List.mem_cons_of_mem _ hy), h z List.mem_cons_self]
theorem shaped_strs {ms : List Str} (h : ∀ z ∈ ms, PyData.strOk z = true) : SeqAt.shaped (.list (ms.map PyData.str)) = true := by
  unfold SeqAt.shaped
  rw [Bool.and_eq_true]
  refine ⟨?_, decide_eq_true ?_⟩
  · simp only [PyData.canLay0]
    exact lay_strs h
  · simp only [PyData.depth, depth_strs]
    decide
theorem shaped_nil : SeqAt.shaped (.list []) = true := shaped_strs (ms := []) fun _ h => by cases h
theorem eqv_nil (ms : List Str) : PyData.eqv (.list (ms.map PyData.str)) (.list []) = decide (ms = []) := by
  cases ms with
  | nil => simp [PyData.eqv, PyData.eqvAll]
  | cons z r => simp [PyData.eqv, PyData.eqvAll]
theorem strOk_nm {n : Nat} {z : Str} (h : isNmB n z = true) : PyData.strOk z = true := by
  have h3 := (nm_abc h).2.2
  unfold PyData.strOk
  rw [← Array.all_toList, List.all_eq_true]
  intro c hc
  have := h3 c hc
  unfold abc at this
  refine decide_eq_true ?_
  simp only [List.mem_cons, List.mem_nil_iff, or_false] at this
  omega
/-! lines of books -/
def okLine (b : Int) (w1 : Str) (rest : List Str) : Bool := isNmB 4 w1 && rest.all fun z => numQ 14 (tl z) && wokB b (numV (tl z))
/-- one line more, behind marks ms and kinds ks -/
def stepM (b : Int) (ms ks : List Str) : List Str → Option (List Str × List Str)
  | w0 :: w1 :: rest =>
    if okLine b w1 rest = true then
      if w0 = "mark" ∧ ks = [] ∧ ms.length < 4 ∧ w1 ∉ ms ∧ rest.length = 1 then (if rest = [("0" : Str)] then none else some (ms ++ [w1], ks))
      else if w0 = "kind" ∧ rest.length = ms.length * ms.length ∧ ms ≠ [] ∧ ks.length < 3 ∧ w1 ∉ ks then some (ms, ks ++ [w1])
      else none
    else none
  | _ => none
/-- how marks and kinds are between two lines -/
structure MkOk (ms ks : List Str) : Prop where
  m4 : ms.length ≤ 4
  k3 : ks.length ≤ 3
  m : ∀ z ∈ ms, isNmB 4 z = true
  k : ∀ z ∈ ks, isNmB 4 z = true
theorem MkOk.nil : MkOk [] [] := ⟨by decide, by decide, fun _ h => by (cases h), fun _ h => by (cases h)⟩
theorem stepM_eq (b : Int) (ms ks : List Str) (w0 w1 : Str) (rest : List Str) : stepM b ms ks (w0 :: w1 :: rest) =
    if okLine b w1 rest = true then
      if w0 = "mark" ∧ ks = [] ∧ ms.length < 4 ∧ w1 ∉ ms ∧ rest.length = 1 then (if rest = [("0" : Str)] then none else some (ms ++ [w1], ks))
      else if w0 = "kind" ∧ rest.length = ms.length * ms.length ∧ ms ≠ [] ∧ ks.length < 3 ∧ w1 ∉ ks then some (ms, ks ++ [w1])
      else none
    else none := rfl
theorem MkOk.step {b : Int} {ms ks ms' ks' ws : List Str} (h : MkOk ms ks) (e : stepM b ms ks ws = some (ms', ks')) : MkOk ms' ks' := by
  cases ws with
  | nil => cases e
  | cons w0 t =>
    cases t with
    | nil => cases e
    | cons w1 rest =>
      rw [stepM_eq] at e
      by_cases ho : okLine b w1 rest = true
      · rw [if_pos ho] at e
        unfold okLine at ho
        rw [Bool.and_eq_true] at ho
        by_cases hm : w0 = "mark" ∧ ks = [] ∧ ms.length < 4 ∧ w1 ∉ ms ∧ rest.length = 1
        · rw [if_pos hm] at e
          by_cases h0 : rest = [("0" : Str)]
          · rw [if_pos h0] at e
            cases e
          · rw [if_neg h0] at e
            have e := Option.some.inj e
            cases e
            refine ⟨by rw [List.length_append, List.length_singleton]; omega, h.k3, fun z hz => ?_, h.k⟩
            rcases List.mem_append.mp hz with q | q
            · exact h.m z q
            · rw [List.mem_singleton.mp q]
              exact ho.1
        · rw [if_neg hm] at e
          by_cases hk : w0 = "kind" ∧ rest.length = ms.length * ms.length ∧ ms ≠ [] ∧ ks.length < 3 ∧ w1 ∉ ks
          · rw [if_pos hk] at e
            have e := Option.some.inj e
            cases e
            refine ⟨h.m4, by rw [List.length_append, List.length_singleton]; omega, h.m, fun z hz => ?_⟩
            rcases List.mem_append.mp hz with q | q
            · exact h.k z q
            · rw [List.mem_singleton.mp q]
              exact ho.1
          · rw [if_neg hk] at e
            cases e
      · rw [if_neg ho] at e
        cases e
theorem zero_word {n : Nat} {z : Str} (h : numQ n (tl z) = true) : numV (tl z) = 0 ↔ z = "0" := by
  constructor
  · intro e
    have := (numQ_iff.mp h).zero e
    exact TL.ext_tl (this.trans rfl)
  · intro e
    rw [e]
    rfl
end OG
set_option Elab.async false
set_option linter.all false
set_option maxRecDepth 100000
set_option maxHeartbeats 8000000
namespace OG
open PySem PySem.Spec PyProof.Rows L2
/-- all but two stay -/
def K2 (a b : Addr) (H H' : Hp) : Prop := ∀ x o, x ≠ a → x ≠ b → H x = some o → H' x = some o
theorem Same.k2 {a b : Addr} {H H' : Hp} (s : Same H H') : K2 a b H H' := fun x o _ _ h => s x o h
def fNum : V → V
  | .str z => oint (numQ 14 (tl z)) (numV (tl z))
  | v => v
def fWor (b : Int) : V → V
  | .int n => .bl (wokB b n)
  | _ => .bl false
theorem fWor_oint (b n : Int) (c : Bool) : fWor b (oint c n) = .bl (c && wokB b n) := by
  cases c
  · rfl
  · rfl
theorem okLine_no {b : Int} {w1 : Str} {rest : List Str} {w0 : Str} {ms ks : List Str} (h : okLine b w1 rest = false) : stepM b ms ks (w0 :: w1 :: rest) = none := by
  rw [stepM_eq, if_neg (by rw [h]; decide)]
theorem eq_word {a b : Str} : decide (V.str a = V.str b) = decide (a = b) := by
  by_cases h : a = b
  · rw [h, decide_eq_true rfl, decide_eq_true rfl]
  · rw [decide_eq_false h, decide_eq_false fun z => h (V.str.inj z)]
theorem ne_of_none' {H : Hp} {a b : Addr} {o : HO} (h : H a = some o) (n : H b = none) : b ≠ a := fun z => by
  rw [z, h] at n
  cases n
section
variable {P : Program} {w : World} {K : PySem.W.Frag} {mg : Str → Option Value} {base : Heap}
def spCan (K : PySem.W.Frag) : Sp := fun vs H Q _ => ∃ (b : Int) (am ak aw : Addr) (ms ks words : List Str), vs = [.int b, .ref am, .ref ak, .ref aw] ∧ H am = some (.lst (ms.map V.str)) ∧ H ak = some (.lst (ks.map V.str)) ∧ am ≠ ak ∧ H aw = some (.lst (words.map V.str)) ∧ words ≠ [] ∧
  words.length ≤ 1000000 ∧ (∀ z ∈ words, z.length ≤ 10000000) ∧ MkOk ms ks ∧ 0 ≤ b ∧ b ≤ 97 ∧
  (stepM b ms ks words = none → ∀ H', K2 am ak H H' → Q (.bl false) H') ∧
  (∀ ms' ks', stepM b ms ks words = some (ms', ks') → ∀ H', K2 am ak H H' → H' am = some (.lst (ms'.map V.str)) → H' ak = some (.lst (ks'.map V.str)) → Q (.bl true) H')
end
end OG
set_option Elab.async false
set_option linter.all false
set_option maxRecDepth 100000
set_option maxHeartbeats 4000000
namespace OG
open PySem PySem.Spec PyProof.Rows L2
def primesL : List Int := [2, 3, 5, 7, 11, 13, 17, 19, 23, 29, 31, 37, 41, 43, 47, 53, 59, 61, 67, 71, 73, 79, 83, 89, 97]
theorem spl_ne (S : List Nat) (l : List Nat) : ∀ (k : Nat) (acc : List Nat), TL.spl S k acc l ≠ [] := by
  induction l with
  | nil =>
    intro k acc h
    unfold TL.spl at h
    cases h
  | cons c r ih =>
    intro k acc h
    cases k with
    | zero =>
      simp only [TL.spl] at h
      split at h
      · cases h
      · exact ih _ _ h
    | succ k =>
      simp only [TL.spl] at h
      exact ih _ _ h
theorem split_facts (z y : Str) (hy : y.length = 1) (h256 : y.cps.all (· < 256) = true) : Txt.split z y ≠ [] ∧ (Txt.split z y).length ≤ z.length + 1 ∧ ∀ p ∈ Txt.split z y, p.length ≤ z.length := by
  have hyn : TL.tl y ≠ [] := fun e => by
    have := TL.len_tl y
    rw [e, hy] at this
    cases this
  have e := TL.split_spl z y hyn (TL.kind_ok h256)
  have hne : Txt.split z y ≠ [] := fun n => by
    rw [n] at e
    exact spl_ne _ _ _ _ e.symm
  refine ⟨hne, ?_⟩
  have j := PySem.StrLaws.join_split z y
  have jt := congrArg TL.tl j
  rw [TL.tl_join] at jt
  have key : ∀ (S : List Nat) (ls : List (List Nat)), ls ≠ [] → S.length = 1 → (TL.joinL S ls).length + 1 = (ls.map fun l => l.length + 1).sum := by
    intro S ls
    induction ls with
    | nil => intro h _; exact absurd rfl h
    | cons p r ih =>
      intro _ hS
      cases r with
      | nil =>
        show p.length + 1 = _
        simp
      | cons q r' =>
        have ih := ih (by simp) hS
        show (p ++ (S ++ TL.joinL S (q :: r'))).length + 1 = _
        rw [List.length_append, List.length_append, List.map_cons, List.sum_cons, ← ih]
        omega
  have k := key (TL.tl y) ((Txt.split z y).map TL.tl) (by simpa using hne) (by rw [← TL.len_tl]; exact hy)
  rw [jt, ← TL.len_tl, List.map_map] at k
  have lens : ∀ ls : List Str, ls.length ≤ (ls.map ((fun l => l.length + 1) ∘ TL.tl)).sum ∧ ∀ p ∈ ls, p.length + 1 ≤ (ls.map ((fun l => l.length + 1) ∘ TL.tl)).sum := by
    intro ls
    induction ls with
    | nil => exact ⟨Nat.le_refl _, fun p h => by cases h⟩
    | cons p r ih =>
      rw [List.map_cons, List.sum_cons]
      have ep : ((fun l : List Nat => l.length + 1) ∘ TL.tl) p = p.length + 1 := by
        show (TL.tl p).length + 1 = _
        rw [← TL.len_tl]
      rw [ep]
      refine ⟨by rw [List.length_cons]; omega, fun q hq => ?_⟩
      rcases List.mem_cons.mp hq with e | e
      · rw [e]
        omega
      · have := ih.2 q e
        omega
  obtain ⟨l1, l2⟩ := lens (Txt.split z y)
  exact ⟨by omega, fun p hp => by have := l2 p hp; omega⟩
/-- by, from the words of the first line -/
def byM : List Str → Option Int
  | [w0, w1] => if w0 = "book" ∧ numQ 14 (tl w1) = true ∧ (numV (tl w1) = 0 ∨ numV (tl w1) ∈ primesL) then some (numV (tl w1)) else none
  | _ => none
theorem prime_le {n : Int} (h : n ∈ primesL) : 2 ≤ n ∧ n ≤ 97 := by
  unfold primesL at h
  simp only [List.mem_cons, List.mem_nil_iff, or_false] at h
  omega
theorem byM_ok {ws : List Str} {b : Int} (h : byM ws = some b) : 0 ≤ b ∧ b ≤ 97 := by
  unfold byM at h
  split at h
  · rename_i w0 w1
    by_cases c : w0 = "book" ∧ numQ 14 (tl w1) = true ∧ (numV (tl w1) = 0 ∨ numV (tl w1) ∈ primesL)
    · rw [if_pos c] at h
      have e := Option.some.inj h
      rw [← e]
      rcases c.2.2 with q | q
      · rw [q]
        decide
      · have := prime_le q
        omega
    · rw [if_neg c] at h
      cases h
  · cases h
def walkM (b : Int) : List Str → Nat → List Str → List Str → Nat ⊕ (List Str × List Str)
  | [], _, ms, ks => .inr (ms, ks)
  | l :: r, i, ms, ks => match stepM b ms ks (Txt.split l " ") with
    | none => .inl i
    | some mk => walkM b r (i + 1) mk.1 mk.2
/-- the number of the first wrong line -/
def wrongM (z : Str) : Option Nat :=
  match byM (Txt.split ((Txt.split z "\n").head?.getD "") " ") with
  | none => some 1
  | some b => match walkM b ((Txt.split z "\n").drop 1) 2 [] [] with
    | .inl i => some i
    | .inr mk => if mk.2 = [] then some ((Txt.split z "\n").length + 1) else none
def wV : Option Nat → V
  | none => .non
  | some n => .int (n : Int)
end OG
set_option Elab.async false
set_option linter.all false
set_option maxRecDepth 100000
set_option maxHeartbeats 8000000
namespace OG
open PySem PySem.Spec PyProof.Rows L2
/-- for i, x in enumerate(list): the pair is a new tuple at T -/
theorem for_enum {K : PySem.W.Frag} {a : Addr} {xs : List V} {g : TG} {tb : TS} {D : Ends} {σ : L2.St} {H : Hp} (Pv : Nat → L2.St → Hp → Prop) (h0 : Pv 0 σ H) (hq : ∀ i σ H, Pv i σ H → SqL K H a xs)
    (hs : ∀ (i : Nat) (x : V) (T : Addr) (σ : L2.St) (H : Hp), xs[i]? = some x → Pv i σ H → H T = none → g (.ref T) σ (upd H T (.tup [.int (i : Nat), x])) fun σ2 H2 => tb { D with nx := Pv (i + 1), ct := Pv (i + 1), bk := D.nx } σ2 H2) (hd : ∀ σ H, Pv xs.length σ H → D.nx σ H) :
    ∃ W : Nat → Nat → L2.St → Hp → Prop, (∃ m, W 0 m σ H) ∧ ∀ i m σ H, W i m σ H →
      ((Ite K a).stop i H ∧ D.nx σ H) ∨ ((Ite K a).go i H ∧ ∃ N : L2.St → Hp → Prop, (∀ σ' H', N σ' H' → ∃ m', m' < m ∧ W (i + 1) m' σ' H') ∧ ∀ v H', (Ite K a).yld i H v H' → g v σ H' fun σ2 H2 => tb { D with nx := N, ct := N, bk := D.nx } σ2 H2) := by
  refine ⟨fun i m σ H => m = xs.length - i ∧ i ≤ xs.length ∧ Pv i σ H, ⟨xs.length, rfl, Nat.zero_le _, h0⟩, ?_⟩
  rintro i m σ H ⟨rfl, hi, p⟩
  have q := hq i σ H p
  by_cases hlt : i < xs.length
  · refine .inr ⟨⟨xs, xs[i], q, List.getElem?_eq_getElem hlt⟩, Pv (i + 1), fun σ' H' p' => ⟨xs.length - (i + 1), by omega, rfl, hlt, p'⟩, fun v H' hy => ?_⟩
    obtain ⟨T, x, rfl, nT, rfl, f⟩ := hy
    exact hs i x T σ H (f xs q) p nT
  · have e : i = xs.length := by omega
    subst e
    exact .inl ⟨⟨xs, q, Nat.le_refl _⟩, hd σ H p⟩
/-- what a text or another value is -/
def NearV (H : Hp) : V → Prop
  | .non => True
  | .bl _ => True
  | .int _ => True
  | .str z => z.length ≤ 900000
  | .ref a => (∃ xs, H a = some (.lst xs)) ∨ (∃ xs, H a = some (.tup xs)) ∨ ∃ kvs, H a = some (.dK kvs)
  | _ => False
theorem NearV.same {H H' : Hp} (s : Same H H') : ∀ {v : V}, NearV H v → NearV H' v
  | .non, h => h
  | .bl _, h => h
  | .int _, h => h
  | .str _, h => h
  | .ref a, h => by
    rcases h with ⟨xs, h⟩ | ⟨xs, h⟩ | ⟨xs, h⟩
    · exact .inl ⟨xs, s _ _ h⟩
    · exact .inr (.inl ⟨xs, s _ _ h⟩)
    · exact .inr (.inr ⟨xs, s _ _ h⟩)
def isStr : V → Bool
  | .str _ => true
  | _ => false
/-- isinstance(v, str) -/
theorem isi_ty {K : PySem.W.Frag} {H : Hp} : ∀ {v : V}, NearV H v → ∃ t, TyX K H v t ∧ PySem.W.kitOne K t (.type "str") = some (isStr v)
  | .non, _ => ⟨_, .base .non, kit_ty (r := false) (by decide +kernel)⟩
  | .bl b, _ => ⟨_, .base (.bl b), kit_ty (r := false) (by decide +kernel)⟩
  | .int i, _ => ⟨_, .base (.int i), kit_ty (r := false) (by decide +kernel)⟩
  | .str z, _ => ⟨_, .base (.str z), kit_ty (r := true) (by decide +kernel)⟩
  | .ref a, h => by
    rcases h with ⟨xs, h⟩ | ⟨xs, h⟩ | ⟨xs, h⟩
    · exact ⟨_, .base (.lst h), kit_ty (r := false) (by decide +kernel)⟩
    · exact ⟨_, .base (.tup h), kit_ty (r := false) (by decide +kernel)⟩
    · exact ⟨_, .base (.dK h), kit_ty (r := false) (by decide +kernel)⟩
/-- what the law tells of a value: None, or a number of a line -/
def dueM : V → Option Nat
  | .str z => wrongM z
  | _ => some 0
section
variable {P : Program} {w : World} {K : PySem.W.Frag} {mg : Str → Option Value} {base : Heap}
def spPrimes : Sp := fun vs H Q _ => vs = [] ∧ ∀ (p : Addr) (H' : Hp), Same H H' → H' p = some (.lst (primesL.map V.int)) → Q (.ref p) H'
def spWrong : Sp := fun vs H Q _ => ∃ (v : V), vs = [v] ∧ NearV H v ∧ ∀ H', Same H H' → Q (wV (dueM v)) H'
end
end OG
set_option Elab.async false
set_option linter.all false
set_option maxRecDepth 100000
set_option maxHeartbeats 4000000
namespace OG
open PySem PySem.Spec PyProof.Rows L2
theorem head_num : ∀ (n : Nat), (TL.numL n).head? = some 48 → n = 0 := by
  intro n
  induction n using Nat.strongRecOn with
  | _ n ih =>
    intro h
    by_cases h10 : n < 10
    · rw [TL.numL_lt h10] at h
      have : 48 + n = 48 := Option.some.inj h
      omega
    · rw [TL.numL_step (by omega)] at h
      have hne := TL.numL_ne (n / 10)
      cases e : TL.numL (n / 10) with
      | nil => exact absurd e hne
      | cons c r =>
        rw [e] at h
        have h : (TL.numL (n / 10)).head? = some 48 := by
          rw [e]
          exact h
        have := ih (n / 10) (by omega) h
        omega
theorem tl_istr_nat (n : Nat) : tl (istr (n : Int)) = TL.numL n := TL.tl_num n
theorem tl_istr_neg {n : Int} (h : n < 0) : tl (istr n) = 45 :: tl (istr (0 - n)) := by
  unfold istr
  rw [toString_neg h]
  show (Str.ofString ("-" ++ toString (0 - n))).cps.toList = 45 :: (Str.ofString (toString (0 - n))).cps.toList
  rw [signs_ofString, signs_ofString, String.toList_append, List.map_append]
  rfl
theorem num_q {n : Nat} (h : n ≤ 1000000000000) : NumQ 14 (TL.numL n) ∧ numV (TL.numL n) = (n : Int) := by
  have ha := TL.numL_digits n
  have hv := TL.numL_val n
  have hl := TL.numL_len (n := n) (k := 13) (by decide) (by omega)
  have hh := head_num n
  have hne := TL.numL_ne n
  cases e : TL.numL n with
  | nil => exact absurd e hne
  | cons c r =>
    rw [e] at ha hv hl hh
    have hc := ha.head
    have hc45 : c ≠ 45 := by omega
    refine ⟨⟨?_, ?_, ?_, ?_⟩, ?_⟩
    · rw [figs_pos hc45]
      exact Nat.succ_le_succ (Nat.zero_le _)
    · rw [figs_pos hc45]
      omega
    · rw [figs_pos hc45]
      exact ha
    · rw [figs_pos hc45]
      intro z
      have n0 := hh z
      rw [n0] at e
      rw [← e]
      rfl
    · rw [numV_pos hc45, hv]
/-- what a written number is read back as -/
theorem istr_q {i : Int} (h1 : -1000000000000 ≤ i) (h2 : i ≤ 1000000000000) : numQ 14 (tl (istr i)) = true ∧ numV (tl (istr i)) = i := by
  by_cases h : i < 0
  · obtain ⟨n, hn⟩ : ∃ n : Nat, 0 - i = (n : Int) := ⟨(0 - i).toNat, by omega⟩
    have q := num_q (n := n) (by omega)
    rw [tl_istr_neg h, hn, tl_istr_nat]
    have n0 : n ≠ 0 := by omega
    have hd : (TL.numL n).head? ≠ some 48 := fun z => n0 (head_num n z)
    refine ⟨numQ_iff.mpr ⟨?_, ?_, ?_, ?_⟩, ?_⟩
    · rw [figs_neg]
      exact List.length_pos_iff.mpr (TL.numL_ne n)
    · rw [figs_neg]
      exact Nat.le_trans (TL.numL_len (k := 13) (by decide) (by omega)) (by decide)
    · rw [figs_neg]
      exact TL.numL_digits n
    · rw [figs_neg]
      exact fun z => absurd z hd
    · rw [numV_neg, TL.numL_val]
      omega
  · obtain ⟨n, rfl⟩ := Int.eq_ofNat_of_zero_le (show 0 ≤ i by omega)
    have q := num_q (n := n) (by omega)
    rw [show ((n : Nat) : Int) = (n : Int) from rfl, tl_istr_nat]
    exact ⟨numQ_iff.mpr q.1, q.2⟩
/-! texts put together, read back -/
theorem istr_free {i : Int} {c : Nat} (hc : c < 45) : c ∉ tl (istr i) := by
  by_cases h : i < 0
  · obtain ⟨n, hn⟩ : ∃ n : Nat, 0 - i = (n : Int) := ⟨(0 - i).toNat, by omega⟩
    rw [tl_istr_neg h, hn, tl_istr_nat]
    intro m
    rcases List.mem_cons.mp m with e | e
    · omega
    · exact TL.numL_free (.inl (by omega)) e
  · obtain ⟨n, rfl⟩ := Int.eq_ofNat_of_zero_le (show 0 ≤ i by omega)
    rw [show ((n : Nat) : Int) = (n : Int) from rfl, tl_istr_nat]
    exact TL.numL_free (.inl (by omega))
theorem nm_free {z : Str} {c : Nat} (h : IsNm z) (hc : c < 97) : c ∉ tl z := fun m => by
  have := h.2.2 c m
  unfold abc at this
  simp only [List.mem_cons, List.mem_nil_iff, or_false] at this
  omega
theorem split_nl {ls : List Str} (hne : ls ≠ []) (h : ∀ l ∈ ls, 10 ∉ tl l) : Txt.split (Txt.join "\n" ls) "\n" = ls := TL.split_join (s := 10) (S := []) (by decide +kernel) (by decide +kernel) hne h
theorem split_sp {ls : List Str} (hne : ls ≠ []) (h : ∀ l ∈ ls, 32 ∉ tl l) : Txt.split (Txt.join " " ls) " " = ls := TL.split_join (s := 32) (S := []) (by decide +kernel) (by decide +kernel) hne h
end OG
set_option Elab.async false
set_option linter.all false
set_option maxRecDepth 100000
set_option maxHeartbeats 4000000
namespace OG
open PySem PySem.Spec PyProof.Rows L2
theorem joinL_cons (S a : List Nat) : ∀ {r : List (List Nat)}, r ≠ [] → TL.joinL S (a :: r) = a ++ (S ++ TL.joinL S r)
  | [], h => absurd rfl h
  | _ :: _, _ => rfl
theorem joinL_app (S : List Nat) : ∀ {xs ys : List (List Nat)}, xs ≠ [] → ys ≠ [] → TL.joinL S (xs ++ ys) = TL.joinL S xs ++ (S ++ TL.joinL S ys)
  | [], _, h, _ => absurd rfl h
  | [x], ys, _, h => joinL_cons S x h
  | x :: y :: r, ys, _, h => by
    have ih := joinL_app S (xs := y :: r) (ys := ys) (by simp) h
    show TL.joinL S (x :: ((y :: r) ++ ys)) = _
    rw [joinL_cons S x (by simp), ih, joinL_cons S x (r := y :: r) (by simp)]
    simp only [List.append_assoc]
theorem joinL_flat (S : List Nat) : ∀ {rows : List (List (List Nat))}, rows ≠ [] → (∀ r ∈ rows, r ≠ []) → TL.joinL S (rows.map (TL.joinL S)) = TL.joinL S rows.flatten ∧ rows.flatten ≠ []
  | [], h, _ => absurd rfl h
  | [r], _, h => by
    have hr := h r List.mem_cons_self
    rw [List.map_cons, List.map_nil, List.flatten_cons, List.flatten_nil, List.append_nil]
    exact ⟨rfl, hr⟩
  | r :: s :: t, _, h => by
    have hr := h r List.mem_cons_self
    obtain ⟨ih, ne⟩ := joinL_flat S (rows := s :: t) (by simp) fun x hx => h x (List.mem_cons_of_mem _ hx)
    have e : (r :: s :: t).flatten = r ++ (s :: t).flatten := rfl
    rw [List.map_cons, joinL_cons S _ (by simp), ih, e, joinL_app S hr ne]
    exact ⟨rfl, by simp [hr]⟩
theorem tl_jn (y : Str) (ls : List Str) : TL.tl (Txt.join y ls) = TL.joinL (TL.tl y) (ls.map TL.tl) := by rw [TL.join_eq, TL.tl_join]
theorem str_ext {a b : Str} (h : TL.tl a = TL.tl b) : a = b := TL.ext_tl h
/-- the words of a mark's line -/
theorem mark_words (z : Str) (w : Int) : markL z w = Txt.join " " [("mark" : Str), z, istr w] := by
  refine str_ext ?_
  rw [tl_jn]
  unfold markL
  rw [TL.tl_append, TL.tl_append, TL.tl_append]
  show TL.tl "mark " ++ TL.tl z ++ TL.tl " " ++ TL.tl (istr w) = TL.tl "mark" ++ (TL.tl " " ++ (TL.tl z ++ (TL.tl " " ++ TL.tl (istr w))))
  have e : TL.tl ("mark " : Str) = TL.tl ("mark" : Str) ++ TL.tl (" " : Str) := by decide +kernel
  rw [e]
  simp only [List.append_assoc]
theorem kind_words (k : Str) {M : List (List Int)} (hM : M ≠ []) (hr : ∀ row ∈ M, row ≠ []) : kindL k M = Txt.join " " (("kind" : Str) :: k :: M.flatten.map istr) := by
  have key := joinL_flat (TL.tl (" " : Str)) (rows := M.map fun row => row.map fun i => TL.tl (istr i)) (by simpa using hM) (fun r h => by
    obtain ⟨row, h1, rfl⟩ := List.mem_map.mp h
    simpa using hr row h1)
  refine str_ext ?_
  rw [tl_jn]
  unfold kindL
  rw [TL.tl_append, TL.tl_append, TL.tl_append, tl_jn]
  have e1 : ((M.map rowL).map TL.tl) = (M.map fun row => row.map fun i => TL.tl (istr i)).map (TL.joinL (TL.tl " ")) := by
    rw [List.map_map, List.map_map]
    refine List.map_congr_left fun row _ => ?_
    show TL.tl (rowL row) = TL.joinL (TL.tl " ") (row.map fun i => TL.tl (istr i))
    unfold rowL
    rw [tl_jn, List.map_map]
    rfl
  have e2 : (M.map fun row => row.map fun i => TL.tl (istr i)).flatten = (M.flatten.map istr).map TL.tl := by
    rw [List.map_map, List.map_flatten]
    rfl
  rw [e1, key.1, e2]
  have ne : ((M.flatten.map istr).map TL.tl) ≠ [] := by
    rw [← e2]
    exact key.2
  rw [List.map_cons, List.map_cons, joinL_cons _ _ (by simp), joinL_cons _ _ ne]
  have e : TL.tl ("kind " : Str) = TL.tl ("kind" : Str) ++ TL.tl (" " : Str) := by decide +kernel
  rw [e]
  simp only [List.append_assoc]
theorem book_words (b : Int) : ("book " ++ istr b : Str) = Txt.join " " [("book" : Str), istr b] := by
  refine str_ext ?_
  rw [tl_jn, TL.tl_append]
  show TL.tl "book " ++ TL.tl (istr b) = TL.tl "book" ++ (TL.tl " " ++ TL.tl (istr b))
  have e : TL.tl ("book " : Str) = TL.tl ("book" : Str) ++ TL.tl (" " : Str) := by decide +kernel
  rw [e]
  simp only [List.append_assoc]
theorem split_mark {z : Str} (hz : IsNm z) (w : Int) : Txt.split (markL z w) " " = [("mark" : Str), z, istr w] := by
  rw [mark_words]
  refine split_sp (by simp) fun l hl => ?_
  simp only [List.mem_cons, List.mem_nil_iff, or_false] at hl
  rcases hl with rfl | rfl | rfl
  · decide +kernel
  · exact nm_free hz (by decide)
  · exact istr_free (by decide)
theorem split_kind {k : Str} (hk : IsNm k) {M : List (List Int)} (hM : M ≠ []) (hr : ∀ row ∈ M, row ≠ []) : Txt.split (kindL k M) " " = ("kind" : Str) :: k :: M.flatten.map istr := by
  rw [kind_words k hM hr]
  refine split_sp (by simp) fun l hl => ?_
  rcases List.mem_cons.mp hl with rfl | hl
  · decide +kernel
  · rcases List.mem_cons.mp hl with rfl | hl
    · exact nm_free hk (by decide)
    · obtain ⟨i, _, rfl⟩ := List.mem_map.mp hl
      exact istr_free (by decide)
theorem split_book (b : Int) : Txt.split ("book " ++ istr b) " " = [("book" : Str), istr b] := by
  rw [book_words]
  refine split_sp (by simp) fun l hl => ?_
  simp only [List.mem_cons, List.mem_nil_iff, or_false] at hl
  rcases hl with rfl | rfl
  · decide +kernel
  · exact istr_free (by decide)
theorem by_own {b : Int} (hb : b = 0 ∨ b ∈ primesL) : byM (Txt.split ("book " ++ istr b) " ") = some b := by
  have b1 : -1000000000000 ≤ b ∧ b ≤ 1000000000000 := by
    rcases hb with e | e
    · rw [e]
      decide
    · have := prime_le e
      omega
  obtain ⟨q1, q2⟩ := istr_q b1.1 b1.2
  rw [split_book]
  show (if ("book" : Str) = "book" ∧ numQ 14 (tl (istr b)) = true ∧ (numV (tl (istr b)) = 0 ∨ numV (tl (istr b)) ∈ primesL) then some (numV (tl (istr b))) else none) = _
  rw [q2, if_pos ⟨rfl, q1, hb⟩]
end OG
set_option Elab.async false
set_option linter.all false
set_option maxRecDepth 100000
set_option maxHeartbeats 4000000
namespace OG
open PySem PySem.Spec PyProof.Rows L2
theorem nmB_of {z : Str} (h : IsNm z) : isNmB 4 z = true := by
  unfold isNmB isOf
  rw [decide_eq_true h.2.1, decide_eq_true (show 0 < z.length from h.1), Bool.true_and, Bool.true_and, List.all_eq_true]
  intro c hc
  refine decide_eq_true ?_
  rw [show tl ("abcdefghijklmnopqrstuvwxyz" : Str) = abc from abc_tl]
  exact h.2.2 c hc
theorem wok_of {b w : Int} (h1 : -1000000000000 ≤ w) (h2 : w ≤ 1000000000000) (hb : 0 ≤ b) (h3 : 0 < b → 0 ≤ w ∧ w < b) : wokB b w = true := by
  unfold wokB
  by_cases e : b = 0
  · rw [if_pos e, decide_eq_true h1, decide_eq_true h2]
    rfl
  · obtain ⟨x, y⟩ := h3 (by omega)
    rw [if_neg e, decide_eq_true x, decide_eq_true y]
    rfl
theorem word_of {b w : Int} (h1 : -1000000000000 ≤ w) (h2 : w ≤ 1000000000000) (hb : 0 ≤ b) (h3 : 0 < b → 0 ≤ w ∧ w < b) : (numQ 14 (tl (istr w)) && wokB b (numV (tl (istr w)))) = true := by
  obtain ⟨q1, q2⟩ := istr_q h1 h2
  rw [q2, q1, wok_of h1 h2 hb h3]
  rfl
/-- one line more, with what it tells -/
def stepD (b : Int) (mw : List (Str × Int)) (kw : List (Str × List Int)) (words : List Str) : Option (List (Str × Int) × List (Str × List Int)) :=
  match stepM b (mw.map (·.1)) (kw.map (·.1)) words with
  | none => none
  | some _ => match words with
    | w0 :: w1 :: rest => if w0 = "mark" then some (mw ++ [(w1, numV (tl (rest.head?.getD "")))], kw) else some (mw, kw ++ [(w1, rest.map fun z => numV (tl z))])
    | _ => none
def walkD (b : Int) : List Str → List (Str × Int) → List (Str × List Int) → Option (List (Str × Int) × List (Str × List Int))
  | [], mw, kw => some (mw, kw)
  | l :: r, mw, kw => match stepD b mw kw (Txt.split l " ") with
    | none => none
    | some mk => walkD b r mk.1 mk.2
theorem walkD_cons (b : Int) (l : Str) (r : List Str) (mw : List (Str × Int)) (kw : List (Str × List Int)) : walkD b (l :: r) mw kw = match stepD b mw kw (Txt.split l " ") with
    | none => none
    | some mk => walkD b r mk.1 mk.2 := rfl
theorem walk_marks {b : Int} (hb : 0 ≤ b) : ∀ (ms2 : List Str) (ws2 : List Int) (mw : List (Str × Int)) (rest : List Str), ms2.length = ws2.length → mw.length + ms2.length ≤ 4 → (mw.map (·.1) ++ ms2).Nodup → (∀ z ∈ ms2, IsNm z) → (∀ w ∈ ws2, WOk b w) →
    walkD b (List.zipWith markL ms2 ws2 ++ rest) mw [] = walkD b rest (mw ++ ms2.zip ws2) []
  | [], [], mw, rest, _, _, _, _, _ => by
    rw [List.zip_nil_left, List.append_nil]
    rfl
  | [], _ :: _, _, _, h, _, _, _, _ => by cases h
  | _ :: _, [], _, _, h, _, _, _, _ => by cases h
  | z :: r, w :: v, mw, rest, hl, h4, nd, hn, hw => by
    have hz := hn z List.mem_cons_self
    obtain ⟨w0, w1, w2, w3⟩ := hw w List.mem_cons_self
    have hq := word_of (b := b) w1 w2 hb (fun p => ⟨by have := (w3 p).1; omega, (w3 p).2⟩)
    obtain ⟨q1, q2⟩ := istr_q w1 w2
    have nz : z ∉ mw.map (·.1) := fun m => by
      have := (List.nodup_append.mp nd).2.2 z m z List.mem_cons_self
      exact this rfl
    have st : stepM b (mw.map (·.1)) [] [("mark" : Str), z, istr w] = some (mw.map (·.1) ++ [z], []) := by
      rw [stepM_eq, if_pos (by unfold okLine; rw [nmB_of hz, List.all_cons, hq]; rfl), if_pos ⟨rfl, rfl, by rw [List.length_map]; rw [List.length_cons] at h4; omega, nz, rfl⟩, if_neg (fun e => w0 ?_)]
      have e := (List.cons.inj e).1
      rw [← q2]
      exact (zero_word q1).mpr e
    have sd : stepD b mw [] (Txt.split (markL z w) " ") = some (mw ++ [(z, w)], []) := by
      rw [split_mark hz]
      unfold stepD
      rw [List.map_nil, st]
      show (if ("mark" : Str) = "mark" then some (mw ++ [(z, numV (tl (istr w)))], []) else _) = _
      rw [if_pos rfl, q2]
    rw [List.zipWith_cons_cons, List.cons_append, walkD_cons, sd]
    show walkD b (List.zipWith markL r v ++ rest) (mw ++ [(z, w)]) [] = _
    rw [walk_marks hb r v (mw ++ [(z, w)]) rest (by simpa using hl) (by rw [List.length_append, List.length_singleton]; rw [List.length_cons] at h4; omega) (by rw [List.map_append, List.append_assoc]; exact nd) (fun y hy => hn y (List.mem_cons_of_mem _ hy)) (fun y hy => hw y (List.mem_cons_of_mem _ hy)), List.zip_cons_cons, List.append_assoc]
    rfl
theorem flat_len {m : Nat} : ∀ {M : List (List Int)}, (∀ row ∈ M, row.length = m) → M.flatten.length = M.length * m
  | [], _ => by simp
  | r :: t, h => by
    rw [List.flatten_cons, List.length_append, flat_len fun x hx => h x (List.mem_cons_of_mem _ hx), h r List.mem_cons_self, List.length_cons, Nat.succ_mul, Nat.add_comm]
theorem nums_back : ∀ {l : List Int}, (∀ z ∈ l, -1000000000000 ≤ z ∧ z ≤ 1000000000000) → (l.map istr).map (fun z => numV (tl z)) = l
  | [], _ => rfl
  | x :: r, h => by
    obtain ⟨h1, h2⟩ := h x List.mem_cons_self
    rw [List.map_cons, List.map_cons, (istr_q h1 h2).2, nums_back fun z hz => h z (List.mem_cons_of_mem _ hz)]
/-- a table's entries -/
def MatOk (b : Int) (m : Nat) (M : List (List Int)) : Prop := M.length = m ∧ ∀ row ∈ M, row.length = m ∧ ∀ z ∈ row, TOk b z
theorem walk_kinds {b : Int} (hb : 0 ≤ b) {mw : List (Str × Int)} (hm : 1 ≤ mw.length) : ∀ (ks2 : List Str) (Ms2 : List (List (List Int))) (kw : List (Str × List Int)), ks2.length = Ms2.length → kw.length + ks2.length ≤ 3 → (kw.map (·.1) ++ ks2).Nodup → (∀ z ∈ ks2, IsNm z) → (∀ M ∈ Ms2, MatOk b mw.length M) →
    walkD b (List.zipWith kindL ks2 Ms2) mw kw = some (mw, kw ++ ks2.zip (Ms2.map List.flatten))
  | [], [], kw, _, _, _, _, _ => by
    rw [List.map_nil, List.zip_nil_left, List.append_nil]
    rfl
  | [], _ :: _, _, h, _, _, _, _ => by cases h
  | _ :: _, [], _, h, _, _, _, _ => by cases h
  | k :: r, M :: v, kw, hl, h3, nd, hn, hM => by
    have hk := hn k List.mem_cons_self
    obtain ⟨m1, m2⟩ := hM M List.mem_cons_self
    have ne : M ≠ [] := fun e => by
      rw [e] at m1
      rw [← m1] at hm
      exact absurd hm (by decide)
    have nr : ∀ row ∈ M, row ≠ [] := fun row hr e => by
      have := (m2 row hr).1
      rw [e] at this
      rw [← this] at hm
      exact absurd hm (by decide)
    have nk : k ∉ kw.map (·.1) := fun m => by
      have := (List.nodup_append.mp nd).2.2 k m k List.mem_cons_self
      exact this rfl
    have hfl : ∀ z ∈ M.flatten, TOk b z := fun z hz => by
      obtain ⟨row, h1, h2⟩ := List.mem_flatten.mp hz
      exact (m2 row h1).2 z h2
    have ha : ((M.flatten.map istr).all fun z => numQ 14 (tl z) && wokB b (numV (tl z))) = true := by
      rw [List.all_eq_true]
      intro y hy
      obtain ⟨i, hi, rfl⟩ := List.mem_map.mp hy
      obtain ⟨t1, t2, t3⟩ := hfl i hi
      exact word_of t1 t2 hb t3
    have len : (M.flatten.map istr).length = (mw.map (·.1)).length * (mw.map (·.1)).length := by
      rw [List.length_map, List.length_map, flat_len fun row hr => (m2 row hr).1, m1]
    have st : stepM b (mw.map (·.1)) (kw.map (·.1)) (("kind" : Str) :: k :: M.flatten.map istr) = some (mw.map (·.1), kw.map (·.1) ++ [k]) := by
      rw [stepM_eq, if_pos (by unfold okLine; rw [nmB_of hk, ha]; rfl), if_neg (fun e => absurd e.1 (by decide +kernel)), if_pos ⟨rfl, len, (fun e => by
        have := congrArg List.length e
        rw [List.length_map] at this
        rw [this] at hm
        exact absurd hm (by decide)), by rw [List.length_map]; rw [List.length_cons] at h3; omega, nk⟩]
    have sd : stepD b mw kw (Txt.split (kindL k M) " ") = some (mw, kw ++ [(k, M.flatten)]) := by
      rw [split_kind hk ne nr]
      unfold stepD
      rw [st]
      show (if ("kind" : Str) = "mark" then _ else some (mw, kw ++ [(k, (M.flatten.map istr).map fun z => numV (tl z))])) = _
      rw [if_neg (by decide +kernel), nums_back fun z hz => ⟨(hfl z hz).1, (hfl z hz).2.1⟩]
    rw [List.zipWith_cons_cons, walkD_cons, sd]
    show walkD b (List.zipWith kindL r v) mw (kw ++ [(k, M.flatten)]) = _
    rw [walk_kinds hb hm r v (kw ++ [(k, M.flatten)]) (by simpa using hl) (by rw [List.length_append, List.length_singleton]; rw [List.length_cons] at h3; omega) (by rw [List.map_append, List.append_assoc]; exact nd) (fun y hy => hn y (List.mem_cons_of_mem _ hy)) (fun y hy => hM y (List.mem_cons_of_mem _ hy)), List.map_cons, List.zip_cons_cons, List.append_assoc]
    rfl
end OG
set_option Elab.async false
set_option linter.all false
set_option maxRecDepth 100000
set_option maxHeartbeats 4000000
namespace OG
open PySem PySem.Spec PyProof.Rows L2
theorem joinL_mem {S : List Nat} {c : Nat} : ∀ {ls : List (List Nat)}, c ∈ TL.joinL S ls → c ∈ S ∨ ∃ l ∈ ls, c ∈ l
  | [], h => by cases h
  | [a], h => .inr ⟨a, List.mem_cons_self, h⟩
  | a :: b :: r, h => by
    rw [joinL_cons S a (by simp)] at h
    rcases List.mem_append.mp h with h | h
    · exact .inr ⟨a, List.mem_cons_self, h⟩
    · rcases List.mem_append.mp h with h | h
      · exact .inl h
      · rcases joinL_mem h with h | ⟨l, hl, hc⟩
        · exact .inl h
        · exact .inr ⟨l, List.mem_cons_of_mem _ hl, hc⟩
theorem join_free {ls : List Str} {c : Nat} (hc : c ≠ 32) (h : ∀ l ∈ ls, c ∉ TL.tl l) : c ∉ TL.tl (Txt.join " " ls) := fun m => by
  rw [tl_jn] at m
  rcases joinL_mem m with m | ⟨l, hl, m⟩
  · have e : TL.tl (" " : Str) = [32] := by decide +kernel
    rw [e, List.mem_singleton] at m
    exact hc m
  · obtain ⟨z, hz, rfl⟩ := List.mem_map.mp hl
    exact h z hz m
theorem mark_free {z : Str} (hz : IsNm z) (w : Int) : 10 ∉ TL.tl (markL z w) := by
  rw [mark_words]
  refine join_free (by decide) fun l hl => ?_
  simp only [List.mem_cons, List.mem_nil_iff, or_false] at hl
  rcases hl with rfl | rfl | rfl
  · decide +kernel
  · exact nm_free hz (by decide)
  · exact istr_free (by decide)
theorem kind_free {k : Str} (hk : IsNm k) {M : List (List Int)} (hM : M ≠ []) (hr : ∀ row ∈ M, row ≠ []) : 10 ∉ TL.tl (kindL k M) := by
  rw [kind_words k hM hr]
  refine join_free (by decide) fun l hl => ?_
  rcases List.mem_cons.mp hl with rfl | hl
  · decide +kernel
  · rcases List.mem_cons.mp hl with rfl | hl
    · exact nm_free hk (by decide)
    · obtain ⟨i, _, rfl⟩ := List.mem_map.mp hl
      exact istr_free (by decide)
theorem book_free (b : Int) : 10 ∉ TL.tl ("book " ++ istr b) := by
  rw [book_words]
  refine join_free (by decide) fun l hl => ?_
  simp only [List.mem_cons, List.mem_nil_iff, or_false] at hl
  rcases hl with rfl | rfl
  · decide +kernel
  · exact istr_free (by decide)
theorem zw_mem {α β γ : Type} {f : α → β → γ} : ∀ {xs : List α} {ys : List β} {z : γ}, z ∈ List.zipWith f xs ys → ∃ x y, x ∈ xs ∧ y ∈ ys ∧ z = f x y
  | [], _, _, h => by simp at h
  | _ :: _, [], _, h => by simp at h
  | x :: xs, y :: ys, z, h => by
    rw [List.zipWith_cons_cons] at h
    rcases List.mem_cons.mp h with e | h
    · exact ⟨x, y, List.mem_cons_self, List.mem_cons_self, e⟩
    · obtain ⟨a, c, h1, h2, e⟩ := zw_mem h
      exact ⟨a, c, List.mem_cons_of_mem _ h1, List.mem_cons_of_mem _ h2, e⟩
theorem MatOk.ne {b : Int} {m : Nat} {M : List (List Int)} (h : MatOk b m M) (hm : 1 ≤ m) : M ≠ [] ∧ ∀ row ∈ M, row ≠ [] := by
  refine ⟨fun e => ?_, fun row hr e => ?_⟩
  · have := h.1
    rw [e] at this
    rw [← this] at hm
    exact absurd hm (by decide)
  · have := (h.2 row hr).1
    rw [e] at this
    rw [← this] at hm
    exact absurd hm (by decide)
/-- an own text, its lines -/
theorem own_lines {b : Int} {m : Nat} {ms ks : List Str} {ws : List Int} {Ms : List (List (List Int))} (ok : BkOk b m ms ws ks Ms) (hM : ∀ M ∈ Ms, MatOk b m M) : Txt.split (bookText b ms ws ks Ms) "\n" = bookLines b ms ws ks Ms := by
  unfold bookText
  refine split_nl (by unfold bookLines; simp) fun l hl => ?_
  unfold bookLines at hl
  rcases List.mem_cons.mp hl with rfl | hl
  · exact book_free b
  · rcases List.mem_append.mp hl with hl | hl
    · obtain ⟨z, w, h1, _, rfl⟩ := zw_mem hl
      exact mark_free (ok.nm.is z h1) w
    · obtain ⟨k, M, h1, h2, rfl⟩ := zw_mem hl
      obtain ⟨n1, n2⟩ := (hM M h2).ne ok.m1
      exact kind_free (ok.nk.is k h1) n1 n2
/-- .. what they tell -/
theorem own_walk {b : Int} {m : Nat} {ms ks : List Str} {ws : List Int} {Ms : List (List (List Int))} (ok : BkOk b m ms ws ks Ms) (hM : ∀ M ∈ Ms, MatOk b m M) :
    walkD b (List.zipWith markL ms ws ++ List.zipWith kindL ks Ms) [] [] = some (ms.zip ws, ks.zip (Ms.map List.flatten)) := by
  have hl := ok.nm.len
  have hw := ok.wl
  rw [walk_marks ok.b0 ms ws [] _ (by omega) (by have := ok.m4; show 0 + ms.length ≤ 4; omega) (by simpa using ok.nm.nd) ok.nm.is ok.w, List.nil_append]
  have lz : (ms.zip ws).length = m := by
    rw [List.length_zip]
    omega
  rw [walk_kinds ok.b0 (by rw [lz]; exact ok.m1) ks Ms [] ok.ml.symm (by have := ok.k3; show 0 + ks.length ≤ 3; omega) (by simpa using ok.nk.nd) ok.nk.is (by rw [lz]; exact hM), List.nil_append]
theorem mats_of {H : Hp} {o : Addr} {b : Int} {m : Nat} {ms ks : List Str} {ws : List Int} {Ms : List (List (List Int))} (hB : BookAt H o b m ms ws ks Ms) (ok : BkOk b m ms ws ks Ms) : ∀ M ∈ Ms, MatOk b m M := by
  intro M h
  obtain ⟨i, hi⟩ := List.getElem?_of_mem h
  have lt := (List.getElem?_eq_some_iff.mp hi).1
  have hk : i < ks.length := by
    have := ok.ml
    omega
  obtain ⟨kvs, tm, tw, tk, td, _, _, _, _, _, _, _, _, _, _, tkvs, _, _, _, tabs⟩ := hB
  obtain ⟨t, M', _, e, rs, _, _, m3, _, m5⟩ := tabs i ks[i] (List.getElem?_eq_getElem hk)
  rw [hi] at e
  have e := Option.some.inj e
  subst e
  exact ⟨m3, m5⟩
/-- the walks go together -/
theorem walk_both {b : Int} : ∀ {ls : List Str} {i : Nat} {mw : List (Str × Int)} {kw : List (Str × List Int)} {mw' : List (Str × Int)} {kw' : List (Str × List Int)}, walkD b ls mw kw = some (mw', kw') → walkM b ls i (mw.map (·.1)) (kw.map (·.1)) = .inr (mw'.map (·.1), kw'.map (·.1))
  | [], i, mw, kw, mw', kw', h => by
    have h := Option.some.inj h
    cases h
    rfl
  | l :: r, i, mw, kw, mw', kw', h => by
    rw [walkD_cons] at h
    cases e : stepD b mw kw (Txt.split l " ") with
    | none =>
      rw [e] at h
      cases h
    | some mk =>
      rw [e] at h
      have ih := walk_both (i := i + 1) (show walkD b r mk.1 mk.2 = some (mw', kw') from h)
      have st : stepM b (mw.map (·.1)) (kw.map (·.1)) (Txt.split l " ") = some (mk.1.map (·.1), mk.2.map (·.1)) := by
        unfold stepD at e
        cases em : stepM b (mw.map (·.1)) (kw.map (·.1)) (Txt.split l " ") with
        | none =>
          rw [em] at e
          cases e
        | some q =>
          rw [em] at e
          cases ew : Txt.split l " " with
          | nil =>
            rw [ew] at e
            cases e
          | cons w0 t =>
            cases t with
            | nil =>
              rw [ew] at e
              cases e
            | cons w1 rest =>
              rw [ew] at e em
              have e : (if w0 = "mark" then some (mw ++ [(w1, numV (tl (rest.head?.getD "")))], kw) else some (mw, kw ++ [(w1, rest.map fun z => numV (tl z))])) = some mk := e
              rw [stepM_eq] at em
              by_cases ho : okLine b w1 rest = true
              · rw [if_pos ho] at em
                by_cases h0 : w0 = "mark"
                · rw [if_pos h0] at e
                  have e := Option.some.inj e
                  by_cases hm : w0 = "mark" ∧ kw.map (·.1) = [] ∧ (mw.map (·.1)).length < 4 ∧ w1 ∉ mw.map (·.1) ∧ rest.length = 1
                  · rw [if_pos hm] at em
                    by_cases hz : rest = [("0" : Str)]
                    · rw [if_pos hz] at em
                      cases em
                    · rw [if_neg hz] at em
                      rw [← e, ← Option.some.inj em, List.map_append]
                      rfl
                  · rw [if_neg hm, if_neg (fun z => by
                      have := h0.symm.trans z.1
                      exact absurd this (by decide +kernel))] at em
                    cases em
                · rw [if_neg h0] at e
                  have e := Option.some.inj e
                  rw [if_neg (fun z => h0 z.1)] at em
                  by_cases hk : w0 = "kind" ∧ rest.length = (mw.map (·.1)).length * (mw.map (·.1)).length ∧ mw.map (·.1) ≠ [] ∧ (kw.map (·.1)).length < 3 ∧ w1 ∉ kw.map (·.1)
                  · rw [if_pos hk] at em
                    rw [← e, ← Option.some.inj em, List.map_append]
                    rfl
                  · rw [if_neg hk] at em
                    cases em
              · rw [if_neg ho] at em
                cases em
      show (match stepM b (mw.map (·.1)) (kw.map (·.1)) (Txt.split l " ") with
        | none => Sum.inl i
        | some mk => walkM b r (i + 1) mk.1 mk.2) = _
      rw [st]
      exact ih
end OG
set_option Elab.async false
set_option linter.all false
set_option maxRecDepth 100000
set_option maxHeartbeats 4000000
namespace OGX
open PySem PySem.Spec PyProof.Rows L2
/-- at a: an exception of the class cls that is kept, its dict at d -/
def ExV (cls : Value) (d : Option Addr) (a : Addr) : HO := .ext fun h => ∃ (oe : Obj) (vs : Array Value), h.get? a = some oe ∧ Zc cls d oe ∧ oe.data = .fields vs
theorem exV_ok {P : Program} {w : World} {H : Hp} {h : Heap} {a : Addr} {cls : Value} {d : Option Addr} {oe : Obj} {vs : Array Value} (e : h.get? a = some oe) (z : Zc cls d oe) (dd : oe.data = .fields vs) : ObjOk P w H h a (ExV cls d a) :=
  ⟨⟨oe, vs, e, z, dd⟩, ⟨_, e⟩, fun h1 h2 z k => by
    obtain ⟨oe, vs, e, z, dd⟩ := z
    exact ⟨oe, vs, k _ e, z, dd⟩⟩
section
variable {X : Cx} {pins : List (Addr × Obj)} {σ : L2.St} {H : Hp} {s : Shared}
theorem keepX {a : Addr} {cls : Value} {d : Option Addr} {oe : Obj} {vs : Array Value} (I : Inv X pins σ H s) (ha : s.heap.get? a = some oe) (hz : Zc cls d oe) (hd : oe.data = .fields vs) (na : H a = none) (n0 : X.s_0.heap.get? a = none) (nL : a ≠ X.env.locals) (np : ∀ p ∈ X.pn ++ pins, p.1 ≠ a) :
    Inv X pins σ (upd H a (ExV cls d a)) s := by
  have ne : ∀ {b : Addr} {o : HO}, H b = some o → b ≠ a := fun {b o} e z => by
    rw [z, na] at e
    cases e
  have b0 := I.base
  refine ⟨I.ok, I.os, I.bare, ?_, I.loc, I.cell, ?_, fun x c e => ?_, fun p hp => ?_, fun b o q => ?_, I.len⟩
  · exact {
      keep := fun b o q n hf hx => b0.keep b o q n hf hx
      slot := fun b o q n hf hx => b0.slot b o q n hf hx
      free := fun b o q n hx => by
        rw [upd_ne (fun z => by rw [z, n0] at q; cases q)]
        exact b0.free b o q n hx
      there := fun b o q hx => b0.there b o q hx
      tups := fun b xs q => by
        have e := b0.tups b xs q
        rw [upd_ne (ne e)]
        exact e
      frzs := fun b o v q => by
        have e := b0.frzs b o v q
        rw [upd_ne (ne e)]
        exact e
      tbls := fun b ps q => by
        obtain ⟨more, e⟩ := b0.tbls b ps q
        exact ⟨more, by rw [upd_ne (ne e)]; exact e⟩ }
  · rw [upd_ne (Ne.symm nL)]
    exact I.free
  · rw [upd_ne (fun z => ?_)]
    · exact I.freeC x c e
    · obtain ⟨v, o, ho, hc⟩ := I.cell x c e
      rw [z, ha] at ho
      cases ho
      rw [hd] at hc
      cases hc
  · obtain ⟨p1, p2, p3⟩ := I.pin p hp
    exact ⟨p1, by rw [upd_ne (np p hp)]; exact p2, p3⟩
  · by_cases hb : b = a
    · subst hb
      rw [upd_same] at q
      cases q
      exact exV_ok ha hz hd
    · rw [upd_ne hb] at q
      exact (I.hok b o q).stay (fun c v hc z => z) (fun c hc => by rw [upd_ne (ne hc)]; exact hc) (fun c xs hc => by rw [upd_ne (ne hc)]; exact hc)
end
/-- what the clause 'except x as n' wishes, the exception kept behind the suite -/
def wKeep (K : PySem.W.Frag) (c : Value) (i : Nat) (ts : Addr → Value → Option Addr → TS) (Wout : WX) (D : Ends) : WX := fun cls d σ H =>
  ∃ b, PySem.W.exmOne K cls c = some b ∧ (b = true → ∀ a, H a = none → ts a cls d { nx := fun σ' H' => H' a = none → D.nx (σ'.set i none) (upd H' a (ExV cls d a)), rt := fun _ _ => False, bk := fun _ _ => False, ct := fun _ _ => False } (σ.set i (some (.ref a))) H) ∧
    (b = false → Wout cls d σ H)
section
variable {X : Cx} {x n : Str} {c : Value} {i : Nat} {body suite : List Stmt} {b₀ : Stmt} {np pos pos' : Pos} {tb : WX → TS} {ts : Addr → Value → Option Addr → TS} {Wout : WX}
theorem ps_try_keep (hex : X.ex = []) (hs : X.stack = X.env :: X.outer) (hf : X.env.frame = some X.env.locals) (hN : X.N.Nodup) (hi : X.N[i]? = some n) (hln : X.env.kindOf n = some .local) (hc : Names X x c) (tk : Takes X Wout)
    (hb : ∀ (W : WX) (pn : List (Addr × Obj)) (xe : Value → Shared → Prop), Takes (X.tr pn xe) W → PassesOwn (model X.prog X.w) X.A X.env xe → PSs (X.tr pn xe) body (tb W))
    (hsu : ∀ (a : Addr) (oe : Obj) (cls : Value) (d : Option Addr) (pn : List (Addr × Obj)), Zc cls d oe → (∃ vs, oe.data = .fields vs) → PSs (X.suite a ((a, oe) :: pn)) (b₀ :: suite) (ts a cls d)) :
    PS X (.Try body [.ExceptHandler (some (.Name x np)) (some n) (b₀ :: suite) pos'] [] [] pos) (fun D σ H => tb (wKeep X.K c i ts Wout D) D σ H) := by
  refine ⟨fun pins s σ H D I h => ?_⟩
  have ok := I.ok
  have hfr : X.A.frames = some (X.env :: X.outer) := by rw [ok.frames, hs]
  have hloc : Loc X.env.scope n := .inl hln
  refine wpAny_Try_except ?_
  refine wpAny_mono ((hb (wKeep X.K c i ts Wout D) (X.pn ++ pins) (fun e s₁ => wpAny (model X.prog X.w) X.A (noteFrame e X.env) (fun _ s₂ => wpAny (model X.prog X.w) X.A (setFlight e none) (fun _ s₃ =>
    wpAny (model X.prog X.w) X.A (handleBy e X.env [.ExceptHandler (some (.Name x np)) (some n) (b₀ :: suite) pos']) (SP X pins D) X.xe s₃) X.xe s₂) X.xe s₁) (fun u s' xx => ?_) PassesOwn.looking).run [] s σ H D (I.toTry _) h) (fun f s1 hsp => ?_) (fun e s1 he => he)
  · -- the catch
    obtain ⟨a, B, sI, pins', σ', H', cls, d, rfl, J', nb, up, sky, na, os, ag, b, hb1, hyes, hno⟩ := xx
    have J : Inv X pins σ' H' sI := J'.ofTry ok
    have sky' : Sky B (X.env :: X.outer) a (Zc cls d) X.env.locals s'.heap := by rw [← hs]; exact sky
    show wpAny (model X.prog X.w) X.A (noteFrame (.ref a) X.env) _ _ _
    refine Sky.land Zc.steady hfr hf sky' fun h3 fl3 up3 => ?_
    have J3 : Inv X pins σ' H' { s' with heap := h3 } := J.landed nb fl3.1 (up.trans up3) os ag
    obtain ⟨oe3, vs3, he3, hz3, hd3⟩ := fl3.there
    have notFr : ∀ {h : Heap} {o : Obj} {vs : Array Value}, h.FunFrames B (X.env :: X.outer) → h.get? a = some o → o.data = .fields vs → a ∉ frs (X.env :: X.outer) := fun {h o vs} ff e dd hm => by
      obtain ⟨_, o', e', hnf⟩ := ff.mem hm
      rw [e] at e'; cases e'
      exact hnf _ dd
    have nfr := notFr fl3.2.2.1 he3 hd3
    have hB : B.get? a = none := fl3.2.1
    have nI : sI.heap.get? a = none := by
      cases q : sI.heap.get? a with
      | none => rfl
      | some o =>
        have e := nb a o q (by rw [hs]; exact nfr)
        rw [hB] at e
        cases e
    have n0 : X.s_0.heap.get? a = none := by
      cases q : X.s_0.heap.get? a with
      | none => rfl
      | some o =>
        obtain ⟨o', e⟩ := J.base.there a o q (by rw [hex]; simp)
        rw [nI] at e
        cases e
    have npin : ∀ p ∈ X.pn ++ pins, p.1 ≠ a := fun p hp z => by
      have e := (J.pin p hp).1
      rw [z, nI] at e
      cases e
    have nL : a ≠ X.env.locals := fun z => nfr (List.mem_filterMap.mpr ⟨X.env, List.mem_cons_self, by rw [hf, z]⟩)
    have nF : a ∉ X.fs := fun hm => by
      obtain ⟨e, he, q⟩ := List.mem_filterMap.mp hm
      exact nfr (List.mem_filterMap.mpr ⟨e, List.mem_cons_of_mem _ he, q⟩)
    have S3 := J3.suite he3 hd3 na nL nF
    refine wpAny_handleBy_cons (codeAny_handlers_test ?_) (by intro q; cases q)
    have LT : PySem.W.Looks (model X.prog X.w) h3 (typeOf (.ref a)) cls := fun A Q E s k q => wpAny_typeOf_ref (k _ _ he3) (by rw [hz3.1]; exact q)
    have LM := PySem.W.exm_one (M := model X.prog X.w) (J3.kIn) LT hb1
    have test : ∀ {Q : Value → Shared → Prop} {E : Value → Shared → Prop}, Q c { s' with heap := h3 } → wpAny (model X.prog X.w) (X.A.mark (some (.ref a))) (eval (.Name x np) X.env) Q E { s' with heap := h3 } := fun {Q E} q => by
      obtain ⟨hg, hdbg, hm | ⟨hm, hv, hnn⟩⟩ := hc
      · exact ld_glob (X := X.suite a ((a, oe3) :: (X.pn ++ pins))) S3 hg hm q hdbg
      · exact ld_blt (X := X.suite a ((a, oe3) :: (X.pn ++ pins))) S3 hg hm hv q hnn hdbg
    refine test (LM.here ?_)
    cases b with
    | true =>
      refine codeAny_handlers_suite_as ?_
      refine HandSPX.lands_againZ fl3 fun h4 fl4 up4 => ?_
      have J4 : Inv X pins σ' H' { s' with heap := h4 } := J.landed nb fl4.1 ((up.trans up3).trans up4) os ag
      obtain ⟨oe4, vs4, he4, hz4, hd4⟩ := fl4.there
      have S4 := J4.suite he4 hd4 na nL nF
      refine store_ok (X := X.suite a ((a, oe4) :: (X.pn ++ pins))) (v := .ref a) S4 hN hi hloc rfl (fun s5 S5 => ?_) (.inr hln)
      refine wpAny_mono ((hsu a oe4 cls d (X.pn ++ pins) hz4 ⟨_, hd4⟩).run [] s5 _ H' _ S5 (hyes rfl a na)) (fun f s6 hsp => ?_) (fun _ _ z => False.elim z)
      cases f with
      | next =>
        obtain ⟨σ6, H6, S6, q6⟩ := hsp
        obtain ⟨p1, p2, _⟩ := S6.pin (a, oe4) (List.mem_append_left _ List.mem_cons_self)
        have J6 : Inv X pins σ6 (upd H6 a (ExV cls d a)) s6 := keepX (S6.unsuite ok) p1 hz4 hd4 p2 n0 nL npin
        exact gone_ok J6 hN hi hln fun s7 J7 => ⟨_, _, J7, q6 p2⟩
      | brk =>
        obtain ⟨σ6, H6, S6, q6⟩ := hsp
        exact False.elim q6
      | cont =>
        obtain ⟨σ6, H6, S6, q6⟩ := hsp
        exact False.elim q6
      | ret u =>
        obtain ⟨v6, σ6, H6, S6, r6, q6⟩ := hsp
        exact False.elim q6
    | false =>
      show wpAny _ X.A (handleBy (.ref a) X.env []) _ _ _
      refine wpAny_handleBy_nil ?_
      obtain ⟨k1, k2, k3, oe, vs, T, oT, ts', he, hz, hd, h1, hr⟩ := id fl3
      unfold PySem.passOn
      refine wpAny_bind (wpAny_field he hd h1 ?_)
      rw [if_neg (show ¬ ((Value.ref T == Value.none) = true) from by simp)]
      have fin : wpAny (model X.prog X.w) X.A (setFlight (.ref a) X.env.frame) (fun _ s4 => wpAny (model X.prog X.w) X.A (throw (.ref a) : Sem Flow) (SP X pins D) X.xe s4) X.xe { s' with heap := h3 } := by
        rw [hf]
        refine HandSPX.setFlight_upZ fl3 fun h4 hh4 up4 => wpAny_throw (tk _ _ ?_)
        exact ⟨a, B, sI, pins, σ', H', cls, d, rfl, J, nb, (up.trans up3).trans up4, .inr (.inr (by rw [hs]; exact hh4)), na, os, ag, hno rfl⟩
      first
        | exact wpAny_bind (wpAny_pure (wpAny_bind fin))
        | exact wpAny_bind fin
  · cases f with
    | next =>
      obtain ⟨σ', H', J', q⟩ := hsp
      exact wpAny_execs_nil ⟨σ', H', J'.ofTry ok, q⟩
    | brk =>
      obtain ⟨σ', H', J', q⟩ := hsp
      exact ⟨σ', H', J'.ofTry ok, q⟩
    | cont =>
      obtain ⟨σ', H', J', q⟩ := hsp
      exact ⟨σ', H', J'.ofTry ok, q⟩
    | ret u =>
      obtain ⟨v, σ', H', J', r, q⟩ := hsp
      exact ⟨v, σ', H', J'.ofTry ok, r, q⟩
end
/-- e.f, e a kept exception -/
def tXv (C : Addr) (f : Str) (te : TE) : TE := fun σ H Q => te σ H fun x H1 => ∃ (a dd : Addr) (fs : List (Str × V)) (v : V), x = .ref a ∧ H1 a = some (ExV (.ref C) (some dd) a) ∧ H1 dd = some (.xd fs) ∧ fs.lookup f = some v ∧ Q v H1
theorem pe_xv {X : Cx} {C : Addr} {e : Expr} {te : TE} {pos : Pos} {n : Str} (T : XfC X.K C) (hno : PySem.W.findIn X.K (.ref C) n = some none)
    (he : PE X e te) (hb : attributeBase e n X.env (eval e X.env) = eval e X.env := by rfl) :
    PE X (.Attribute e n pos) (tXv C n te) := by
  refine ⟨fun pins s σ H Q I h => ?_⟩
  refine attr_of hb (thn (he.run pins s σ H _ I h) fun u s1 hh => ?_)
  obtain ⟨x, H1, I1, rx, a, dd, fs, v, ex, eo, ea, l, q⟩ := hh
  subst ex
  obtain rfl : u = Value.ref a := rx
  obtain ⟨⟨oe, vs, ha, hz, hd⟩, _, _⟩ := I1.hok a _ eo
  have hx : ObjOk X.prog X.w H1 s1.heap dd (.xd fs) := I1.hok dd _ ea
  obtain ⟨mA, hns, hr⟩ := hx
  obtain ⟨od, ho, hl⟩ := lookIn_ns hns
  obtain ⟨u, hu, ru⟩ := RelO.some_of (v := v) (o := mA n) (by rw [← l]; exact hr n)
  have J : PySem.W.InstAt s1.heap a oe C (some od) := ⟨ha, hz.1, by unfold PySem.W.notCls; rw [hd] <;> rfl, by rw [hz.2]; exact ho⟩
  exact HandSPX.exc_get I1.kIn J T.ga T.gg T.exC (PySem.W.findObj_own T.hdC hno rfl (by rw [hl, hu])) (handed_of ru) ⟨v, H1, I1.tok _, ru, q⟩
/-- isinstance(e, c), e a kept exception -/
def rIsK (K : PySem.W.Frag) : List V → Hp → VK → Prop := fun xs H Q => ∃ (a D : Addr) (d : Addr) (fs : List (Str × V)) (c : V) (cv : Value) (b : Bool), xs = [.ref a, c] ∧ H a = some (ExV (.ref D) (some d) a) ∧ H d = some (.xd fs) ∧ ExcC K D ∧ (∀ u, RelV c u → u = cv) ∧ PySem.W.kitOne K (.ref D) cv = some b ∧ Q (.bl b) H
theorem call_isK {X : Cx} : CallR X (.builtin "isinstance") (rIsK X.K) := by
  intro pins s σ H xs us Q I r h
  obtain ⟨a, D, d, fs, c, cv, b, rfl, ha, hfs, C, hcv, e, q⟩ := h
  cases r with
  | cons rx rr =>
    cases rr with
    | cons rt rr =>
      cases rr
      cases rx
      have ec := hcv _ rt
      subst ec
      obtain ⟨⟨oe, vs, hget, hz, hd⟩, _, _⟩ := I.hok a _ ha
      have hx : ObjOk X.prog X.w H s.heap d (.xd fs) := I.hok d _ hfs
      obtain ⟨mA, hns, hr⟩ := hx
      obtain ⟨od, ho, hl⟩ := lookIn_ns hns
      have J : PySem.W.InstAt s.heap a oe D (some od) := ⟨hget, hz.1, by unfold PySem.W.notCls; rw [hd] <;> rfl, by rw [hz.2]; exact ho⟩
      obtain ⟨cdD, hcD, _⟩ := PySem.W.any_some C.hd
      exact PySem.W.kia_one (PySem.W.kitx_exc (by rw [hcD]; rfl) C.hg C.hk C.hs C.ha C.hn C.ht C.hm) I.kIn J e (fun z => nomatch z) fun tk => ⟨.bl b, H, I.kept (t' := tk) fun _ _ z => z, rfl, q⟩
end OGX
set_option Elab.async false
set_option linter.all false
set_option maxRecDepth 100000
set_option maxHeartbeats 4000000
namespace OGX
open PySem PySem.Spec PyProof.Rows L2
/-- the list at a as it stands at each turn, each item in a new pair behind its number from m on -/
def IteS (K : PySem.W.Frag) (a : Addr) (m : Nat) : It :=
  ⟨fun i H => ∃ (xs : List V) (x : V), SqL K H a xs ∧ xs[i]? = some x, fun i H v H' => ∃ T x, v = .ref T ∧ H T = none ∧ H' = upd H T (.tup [.int ((m + i : Nat) : Int), x]) ∧ ∀ xs, SqL K H a xs → xs[i]? = some x, fun i H => ∃ xs : List V, SqL K H a xs ∧ xs.length ≤ i⟩
theorem turn_enumS {P : Program} {w : World} {K : PySem.W.Frag} {elts : List Expr} {kk : Nat} {tpos : Pos} (m : Nat) (a e it : Addr) (hea : e ≠ a) (hia : a ≠ it) :
    Turn P w K (.Tuple elts kk tpos) (IteS K a m) [e, it] e (fun i h => (∃ old, IsEnum h e it ((m + i : Nat) : Int) old) ∧ h.IsListIter it a i ∧ e ≠ it) where
  mem := by simp
  obj := fun i h st b hb => by
    obtain ⟨⟨old, he⟩, ⟨o, ho, hc, hd⟩, _⟩ := st
    have e' : b = e ∨ b = it := by simpa using hb
    rcases e' with z | z
    · rw [z]; exact ⟨_, he, fun v q => nomatch q⟩
    · rw [z]; exact ⟨o, ho, fun v q => by rw [hd] at q; cases q⟩
  keep := fun i h h' st k => let ⟨⟨old, he⟩, hi, hne⟩ := st; ⟨⟨old, k e (by simp) _ he⟩, hi.at fun o q => k it (by simp) o q, hne⟩
  item := by
    intro X hP hw hK hc i pins s σ H E I hf st hg
    subst hP hw hK
    obtain ⟨⟨old, he⟩, hit, hne⟩ := st
    obtain ⟨xs, x, hq, hx⟩ := hg
    obtain ⟨its, rv, p, hz⟩ := I.list hq
    obtain ⟨u, hu, ru⟩ := rv.get hx
    have hel : e < s.heap.objs.size := Heap.lt_size he
    have hil : it < s.heap.objs.size := by obtain ⟨_, q, _⟩ := hit; exact Heap.lt_size q
    have hlt : i < its.toArray.size := by
      have := (List.getElem?_eq_some_iff.mp hu).1
      simpa using this
    refine wpAny_pyNext_enum_itemC (Draws.list (A := X.A.in1) (I.ok.hd hc) it a hia its.toArray) he ⟨hit, p.isList⟩ hlt hne (by simp [hne, hea]) fun u2 h' tk hu2 ho st' hT hsz hk => ?_
    have e2 : u2 = u := by
      have q : its.toArray[i]? = some u := by simpa using hu
      rw [q] at hu2
      exact (Option.some.inj hu2).symm
    subst e2
    obtain ⟨hit', _⟩ := st'
    refine ⟨_, rfl, wpAny_letOwnedTupleGo_enum (s := { s with heap := h', toks := tk + 1 }) ho fun h'' he' sb => ?_⟩
    have hT2 : h''.get? s.heap.objs.size = some { cls := .type "tuple", data := .seq #[.int ((m + i : Nat) : Int) tk, u2] } := (sb.2 _ (Nat.ne_of_gt hel)).trans hT
    have new : ObjOk X.prog X.w (upd H s.heap.objs.size (.tup [.int ((m + i : Nat) : Int), x])) h'' s.heap.objs.size (.tup [.int ((m + i : Nat) : Int), x]) :=
      ⟨by show 2 ≤ sizeLine; decide, [.int ((m + i : Nat) : Int) tk, u2], .cons ⟨_, rfl⟩ (.cons ru .nil), ⟨_, hT2, rfl, _, rfl⟩⟩
    have I1 : Inv X pins σ (upd H s.heap.objs.size (.tup [.int ((m + i : Nat) : Int), x])) { s with heap := h'', toks := tk + 1 } :=
      I.turnedNew (ch := [e, it]) (fun b ob hb q => (sb.2 b (fun z => hb (by simp [z]))).trans (hk b ob (fun z => hb (by simp [z])) (fun z => hb (by simp [z])) q)) hf (Nat.le_refl _) new
    refine ⟨.ref s.heap.objs.size, _, I1, rfl, ⟨_, x, rfl, I.hok.fresh (Nat.le_refl _), rfl, fun ys hy => by rw [I.list_inj hy hq]; exact hx⟩, ⟨⟨u2, ?_⟩, hit'.at fun o q => (sb.2 it (Ne.symm hne)).trans q, hne⟩, fun b hb => ?_⟩
    · have e1 : ((m + (i + 1) : Nat) : Int) = ((m + i : Nat) : Int) + 1 := by omega
      rw [e1]; exact he'
    · have hb' : b < s.heap.objs.size := by
        have e' : b = e ∨ b = it := by simpa using hb
        rcases e' with z | z
        · rw [z]; exact hel
        · rw [z]; exact hil
      rw [upd_ne (Nat.ne_of_lt hb')]
      exact (hf b hb).1
  done := by
    intro X hP hw hK hc i pins s σ H E I hf st hg
    subst hP hw hK
    obtain ⟨⟨old, he⟩, hit, hne⟩ := st
    obtain ⟨xs, hq, hx⟩ := hg
    obtain ⟨its, rv, p, hz⟩ := I.list hq
    obtain ⟨f0, f1, f2, f3, f4, f5⟩ := hf it (by simp)
    have hl := rv.length
    have hT : s.TypeIs (.ref e) "enumerate" := ⟨_, he, rfl⟩
    unfold pyNext
    refine wpAny_bind (wpAny_attempt (wpAny_callSpecial?_slot (name := Str.ofString "__next__") hT F.slot_enumerate_next
      (wpAny_call_entry F.slot_enumerate_next hT F.entry_enumerate_next ?_ (F.args_enumerate_next_1 _))))
    show wpAny _ _ (field (.ref e) 2 >>= _) _ _ _
    refine wpAny_bind (wpAny_field he rfl (x := .ref it) rfl ?_)
    refine wpAny_bind (wpAny_nextOf_list_end (I.ok.hd hc) hit p.isList (by simp; omega) fun h' x he' hx' => ?_)
    obtain ⟨o, ho, hcc⟩ := hx'
    refine wpAny_bind (wpAny_isInstance (T := "StopIteration") (b := true) ⟨o, ho, hcc⟩ isSubtype_stop ?_)
    exact wpAny_pure ⟨rfl, I.turned (t' := s.toks) (fun b o hb q => he' b o hb q) f0 f1 f3 f4 f5⟩
  self := fun A i s Q E st h => let ⟨⟨_, he⟩, _⟩ := st; wpAny_pyIter_enum he h
theorem callWith_type_kw {M : Model} {A : Around} {E : Value → Shared → Prop} {s : Shared} {env : Env} {pos : Pos} {id : String} {e : Expr} {rest : List Expr} {kws : List Keyword} {Q : Value → Shared → Prop}
    (h : wpAny M A (spliced (backTo pos (starEach (e :: rest) env))) (fun vs s₁ => wpAny M A (evalAll ((backToKw pos (keywordEach kws env)).map (·.2)))
      (fun kvs s₂ => wpAny M A (call (.type id) vs (((backToKw pos (keywordEach kws env)).filterMap (·.1)).zip kvs)) Q E s₂) E s₁) E s)
    (he : backTo pos (starEach (e :: rest) env) = (false, eval e env) :: backTo pos (starEach rest env) := by rfl)
    (hplain : (backTo pos (starEach (e :: rest) env)).any (·.1) = false := by rfl)
    (hall : (backToKw pos (keywordEach kws env)).all (·.1.isSome) = true := by rfl)
    (hkw : (backToKw pos (keywordEach kws env)).any (·.1.isNone) = false := by rfl) :
    wpAny M A (callWith pos (.type id) [] (backTo pos (starEach (e :: rest) env)) (backToKw pos (keywordEach kws env))) Q E s := by
  have key : wpAny M A (evalArgs (.type id) true (backTo pos (starEach (e :: rest) env)) (backToKw pos (keywordEach kws env))) (fun a s₁ => wpAny M A (call (.type id) ([] ++ a.pos) a.kw) Q E s₁) E s := by
    rw [he] at h ⊢
    exact evalArgs_kwB hall h
  unfold callWith
  refine wpAny_bind (wpAny_holding (wpAny_mono key (fun a s₁ h₁ => wpAny_bind (wpAny_standAt ?_)) fun _ _ x => x))
  simp only [hplain, hkw, Bool.or_false]
  refine wpAny_bind (wpAny_pure ?_)
  exact wpAny_bind (wpAny_mono h₁ (fun r s₂ hr => wpAny_bind (wpAny_holding (wpAny_point (wpAny_pure hr)))) fun _ _ x => x)
def iEnumS (K : PySem.W.Frag) (ta tk : TA) : TI := fun σ H R => ta σ H fun vs H1 => tk σ H1 fun zs H2 => ∃ a xs, ∃ m : Nat, vs = [.ref a] ∧ zs = [.int (m : Int)] ∧ m ≤ 1000 ∧ SqL K H2 a xs ∧ R (IteS K a m) H2
theorem pi_enumS {X : Cx} {e ke : Expr} {ta tk : TA} {p pos tpos kpos : Pos} {elts : List Expr} {kk : Nat} (hg : Gl X "enumerate") (hm : X.mg "enumerate" = none) (ha : PA X [e] ta) (hk : PK X [⟨some "start", ke, kpos⟩] tk)
    (he : backTo pos (starEach [e] X.env) = (false, eval e X.env) :: backTo pos (starEach [] X.env) := by rfl)
    (hall : (backToKw pos (keywordEach [⟨some "start", ke, kpos⟩] X.env)).all (·.1.isSome) = true := by rfl) (hks : (backToKw pos (keywordEach [⟨some "start", ke, kpos⟩] X.env)).filterMap (·.1) = [("start" : Str)] := by rfl) :
    PI X (.Tuple elts kk tpos) (.Call (.Name "enumerate" p) [e] [⟨some "start", ke, kpos⟩] pos) (iEnumS X.K ta tk) := by
  refine ⟨fun pins s σ H R I h => ?_⟩
  refine wpAny_Call_Name_kw (ld_blt I hg hm boot_enumerate (callWith_type_kw (thn (ha.run pos pins s σ H _ I h) fun us s1 ⟨vs, H1, I1, r1, q1⟩ => thn (hk.run pos pins s1 σ H1 _ I1 q1) fun ws s2 ⟨zs, H2, I2, r2, q2⟩ => ?_) he (by rw [he]; rfl) hall (by rfl)))
  obtain ⟨a, xs, m, ex, ez, hm1000, hq, q⟩ := q2
  subst ex
  subst ez
  rw [hks]
  cases r1 with
  | cons r rr =>
    cases rr
    cases r
    cases r2 with
    | cons rz rrz =>
      cases rrz
      obtain ⟨tz, rfl⟩ := rz
      obtain ⟨its, rv, p', hz⟩ := I2.list hq
      have hal : a < s2.heap.objs.size := by
        obtain ⟨o, ho, _⟩ := p'.isList
        exact Heap.lt_size ho
      refine enum_begins_start (k := (m : Int)) (t := tz) (begins_list a its.toArray) p'.isList (by rw [show (2:Int) ^ 63 = 9223372036854775808 by decide]; omega) (by rw [show (2:Int) ^ 63 = 9223372036854775808 by decide]; omega) fun h' he' hit hsz hkk => wpAny_pyIter_enum he' ?_
      have I3 : Inv X pins σ H2 { s2 with heap := h' } := I2.kept (t' := s2.toks) hkk
      have hit2 : h'.IsListIter s2.heap.objs.size a 0 := ⟨_, hit, rfl, rfl⟩
      refine ⟨s2.heap.objs.size + 1, [s2.heap.objs.size + 1, s2.heap.objs.size], _, _, H2, rfl, I3, turn_enumS m a (s2.heap.objs.size + 1) s2.heap.objs.size (Nat.ne_of_gt (Nat.lt_succ_of_lt hal)) (Nat.ne_of_lt hal), ⟨⟨.none, he'⟩, hit2, Nat.succ_ne_self _⟩, fun b hb => ?_, q⟩
      have e' : b = s2.heap.objs.size + 1 ∨ b = s2.heap.objs.size := by simpa using hb
      have hle : s2.heap.objs.size ≤ b := by
        rcases e' with z | z
        · rw [z]; exact Nat.le_add_right _ _
        · rw [z]; exact Nat.le_refl _
      exact I2.fpOk hle (I2.hok.fresh hle)
theorem for_enumS {K : PySem.W.Frag} {a : Addr} {xs : List V} {g : TG} {tb : TS} {D : Ends} {σ : L2.St} {H : Hp} {m0 : Nat} (Pv : Nat → L2.St → Hp → Prop) (h0 : Pv 0 σ H) (hq : ∀ i σ H, Pv i σ H → SqL K H a xs)
    (hs : ∀ (i : Nat) (x : V) (T : Addr) (σ : L2.St) (H : Hp), xs[i]? = some x → Pv i σ H → H T = none → g (.ref T) σ (upd H T (.tup [.int ((m0 + i : Nat) : Int), x])) fun σ2 H2 => tb { D with nx := Pv (i + 1), ct := Pv (i + 1), bk := D.nx } σ2 H2) (hd : ∀ σ H, Pv xs.length σ H → D.nx σ H) :
    ∃ W : Nat → Nat → L2.St → Hp → Prop, (∃ m, W 0 m σ H) ∧ ∀ i m σ H, W i m σ H →
      ((IteS K a m0).stop i H ∧ D.nx σ H) ∨ ((IteS K a m0).go i H ∧ ∃ N : L2.St → Hp → Prop, (∀ σ' H', N σ' H' → ∃ m', m' < m ∧ W (i + 1) m' σ' H') ∧ ∀ v H', (IteS K a m0).yld i H v H' → g v σ H' fun σ2 H2 => tb { D with nx := N, ct := N, bk := D.nx } σ2 H2) := by
  refine ⟨fun i m σ H => m = xs.length - i ∧ i ≤ xs.length ∧ Pv i σ H, ⟨xs.length, rfl, Nat.zero_le _, h0⟩, ?_⟩
  rintro i m σ H ⟨rfl, hi, p⟩
  have q := hq i σ H p
  by_cases hlt : i < xs.length
  · refine .inr ⟨⟨xs, xs[i], q, List.getElem?_eq_getElem hlt⟩, Pv (i + 1), fun σ' H' p' => ⟨xs.length - (i + 1), by omega, rfl, hlt, p'⟩, fun v H' hy => ?_⟩
    obtain ⟨T, x, rfl, nT, rfl, f⟩ := hy
    exact hs i x T σ H (f xs q) p nT
  · have e : i = xs.length := by omega
    subst e
    exact .inl ⟨⟨xs, q, Nat.le_refl _⟩, hd σ H p⟩
end OGX
set_option Elab.async false
set_option linter.all false
set_option maxRecDepth 100000
set_option maxHeartbeats 4000000
namespace L2
open PySem PySem.Spec PyProof.Rows
section
variable {prog : Program} {w : World} {A : Around} {E : Value → Shared → Prop} {s : Shared} {T : String} {r d : Addr} {n : Nat} {PP : Nat → Value → Prop} {OK : Heap → Prop}
theorem collect_kdl {Q : List Value → Shared → Prop} (K : PySem.W.KdlSrc prog w T r d n PP OK) (hh : A.handled = none) (hok : OK s.heap) (hlen : n ≤ sizeLine)
    (hQ : ∀ (h' : Heap) (tk : Nat) (acc : Array Value), (∀ b o, s.heap.get? b = some o → h'.get? b = some o) → ItemsOf PP acc n → Q acc.toList { s with heap := h', toks := tk }) :
    wpAny (model prog w) A (collect (.ref r)) Q E s := by
  unfold collect
  refine wpAny_bind (wpAny_runValue (codeAny_builtin F.entry_proto_collect ?_))
  rw [Around.under_plainId F.plain_proto_collect _]
  show wpAny _ A.in1 (newList [] >>= fun l => again (.builtin "list.__iadd__" ⟨[l, .ref r], []⟩)) _ _ s
  refine wpAny_bind (wpAny_newObj_type ?_)
  refine wpAny_pure ⟨plainId_quiet F.plain_list_iadd _, codeAny_builtin F.entry_list_iadd ?_⟩
  rw [Around.under_plainId F.plain_list_iadd _]
  show wpAny _ A.in1 (Builtin.List.listExtendWith (.ref s.heap.objs.size) (.ref r) (.ref s.heap.objs.size)) _ _ _
  have hS : (s.heap.push { cls := .type "list", data := .seq ([] : List Value).toArray }).get? s.heap.objs.size = some { cls := .type "list", data := .seq #[] 0 } := Heap.get?_push_size _ rfl
  have hlt := K.there _ hok
  refine wpAny_mono (PySem.W.kdl_extend (A := A) (R := fun rr s' => rr = .ok (.ret (.ref s.heap.objs.size)) ∧ ∃ (h' : Heap) (tk : Nat) (acc : Array Value) (c' : Nat), s' = { s with heap := h', toks := tk } ∧
      (∀ b o, s.heap.get? b = some o → h'.get? b = some o) ∧ h'.get? s.heap.objs.size = some { cls := .type "list", dict := none, data := .seq acc c', slots := #[] } ∧ ItemsOf PP acc n)
    (s := { s with heap := s.heap.push { cls := .type "list", data := .seq ([] : List Value).toArray } }) K hh (K.keep _ _ hok fun b _ o e => Heap.get?_push_of_some _ e) _ (Nat.ne_of_gt hlt.1) (Nat.ne_of_gt hlt.2) _ 0 hS
    (fun h' tk acc c' hk e hi => ⟨rfl, h', tk, acc, c', rfl, fun b o q => hk b o (Nat.ne_of_lt (Heap.lt_size q)) (Heap.get?_push_of_some _ q), e, hi⟩) hlen) (fun fin s' h => ?_) (fun e s' h => ?_)
  · cases fin with
    | done f =>
      obtain ⟨e, h', tk, acc, c', rfl, hk, hS', hi⟩ := h
      cases e
      show wpAny _ A (load s.heap.objs.size >>= _) _ _ _
      exact wpAny_bind (wpAny_load hS' (wpAny_pure (hQ h' tk acc hk hi)))
    | again c' =>
      refine ⟨h.1, codeAny_mono h.2 fun rr s'' hr' => ?_⟩
      obtain ⟨rfl, h', tk, acc, c', rfl, hk, hS', hi⟩ := hr'
      show wpAny _ A (load s.heap.objs.size >>= _) _ _ _
      exact wpAny_bind (wpAny_load hS' (wpAny_pure (hQ h' tk acc hk hi)))
  · exact absurd h.1 (by simp)
theorem code_tuple_new_kdl {Q₁ : Value → Shared → Prop} (K : PySem.W.KdlSrc prog w "dict" r d n PP OK) (hh : A.handled = none) (hok : OK s.heap) (hlen : n ≤ sizeLine)
    (h : ∀ (h' : Heap) (tk : Nat) (acc : Array Value), (∀ b o, s.heap.get? b = some o → h'.get? b = some o) → ItemsOf PP acc n →
      Q₁ (.ref h'.objs.size) { s with heap := h'.push { cls := .type "tuple", data := .seq acc }, toks := tk }) :
    codeAny (model prog w) A (.call (.builtin "tuple.__new__") ⟨[.type "tuple", .ref r], []⟩) (wants Q₁ E) s := by
  refine codeAny_of_tree ?_
  show wpAny _ A.in1 (do checkBuiltinCall "tuple.__new__" ⟨[.type "tuple", .ref r], []⟩; again (.builtin "tuple.__new__" ⟨[.type "tuple", .ref r], []⟩)) _ _ s
  refine wpAny_bind (wpAny_of_eq (F.newCall_tuple_1 _) (wpAny_pure ⟨plainId_quiet F.plain_tuple_new _, codeAny_builtin F.entry_tuple_new ?_⟩))
  rw [Around.under_plainId F.plain_tuple_new _]
  have hsub := sub_tuple_self
  have hinit := init_tuple_lookup
  have hmh := madeHere_tuple
  have hTI : s.TypeIs (.ref r) "dict" := K.type s hok
  have hh1 : A.in1.handled = none := hh
  wp_walk using wpAny_typeOf hTI, collect_kdl (A := A.in1) K hh1 hok hlen
  intro h' tk acc hk hacc
  show wpAny _ _ (Builtin.Tuple.tupleExact acc.toList.toArray >>= fun v => ret v) _ _ _
  unfold Builtin.Tuple.tupleExact
  refine wpAny_bind (wpAny_newObj_type ?_ (by show acc.toList.toArray.size ≤ sizeLine; simp only [Array.toArray_toList]; rw [hacc.1]; exact hlen))
  refine wpAny_pure ?_
  have e : acc.toList.toArray = acc := by simp
  rw [e]
  exact h h' tk acc hk hacc
theorem call_tuple_kdl {Q : Value → Shared → Prop} (K : PySem.W.KdlSrc prog w "dict" r d n PP OK) (hh : A.handled = none) (hok : OK s.heap) (hlen : n ≤ sizeLine)
    (hQ : ∀ (h' : Heap) (tk : Nat) (acc : Array Value), (∀ b o, s.heap.get? b = some o → h'.get? b = some o) → ItemsOf PP acc n →
      Q (.ref h'.objs.size) { s with heap := h'.push { cls := .type "tuple", data := .seq acc }, toks := tk }) :
    wpAny (model prog w) A (call (.type "tuple") [.ref r]) Q E s := by
  refine callType_codes (Q₁ := fun obj s₁ => s₁.TypeIs obj "tuple" ∧ Q obj s₁) F.called_tuple (F.typeCall_tuple_1 _) F.entry_object_init
    (code_tuple_new_kdl (A := A.in1) K hh hok hlen fun h' tk acc hk hacc => ⟨⟨_, Heap.get?_push_size _ rfl, rfl⟩, hQ h' tk acc hk hacc⟩) fun obj s₁ h₁ => ?_
  exact ⟨h₁.1, F.args_object_init_2 obj _, object_init_meets F.called_tuple.init.lookup F.called_tuple.made (by decide) prog w A.in1 _ s₁ ⟨h₁.1, rfl, h₁.2⟩⟩
end
def rTupleD : List V → Hp → VK → Prop := fun xs H Q => ∃ p kvs, xs = [.ref p] ∧ H p = some (.dK kvs) ∧ ∀ q, H q = none → Q (.ref q) (upd H q (.tup (kvs.map fun kv => kV kv.1)))
theorem call_tuple_dK {X : Cx} (hc : X.calm = true) : CallR X (.type "tuple") rTupleD := by
  intro pins s σ H xs us Q I r h
  obtain ⟨p, kvs, e, hk, q⟩ := h
  subst e
  obtain ⟨u, eu, rx⟩ := vals1 r
  subst eu
  obtain rfl : u = Value.ref p := rx
  obtain ⟨z, lo, vs, rk, hd⟩ := (show ObjOk X.prog X.w H s.heap p (.dK kvs) from I.hok p _ hk)
  obtain ⟨ep, hat⟩ := hd.dictAt
  have hl : kvs.length = vs.length := Paired.length rk
  refine call_tuple_kdl (PySem.W.kdl_dict (knd := mixKind X.prog X.w) (kvs := vs) (ep := ep) lo) (I.ok.hd hc) hat (by rw [← hl]; exact z) fun h' tk acc' hkeep hacc => ?_
  have I1 : Inv X pins σ H { s with heap := h', toks := tk } := I.kept (t' := tk) hkeep
  have hv : Vals (kvs.map fun kv => kV kv.1) acc'.toList := by
    have el : acc'.toList.length = acc'.size := by simp
    refine vals_of_at (by rw [List.length_map, el, hacc.1, hl]) fun j x w h1 h2 => ?_
    obtain ⟨k, y, hky, hi⟩ := hacc.2 j w (by rw [← Array.getElem?_toList]; exact h2)
    have e1 : (kvs.map (·.1))[j]? = some k := by
      rw [KV.keys rk, List.getElem?_map, hky] <;> rfl
    have e2 : (kvs.map fun kv => kV kv.1)[j]? = some (kV k) := by
      have e3 : (kvs.map fun kv => kV kv.1) = (kvs.map (·.1)).map kV := by rw [List.map_map] <;> rfl
      rw [e3, List.getElem?_map, e1] <;> rfl
    rw [e2] at h1
    cases h1
    exact keyIs_rel hi
  have I2 : Inv X pins σ (upd H h'.objs.size (.tup (kvs.map fun kv => kV kv.1))) { s with heap := h'.push { cls := .type "tuple", data := .seq acc' }, toks := tk } :=
    I1.laid (t' := tk) (fun b o e => Heap.get?_push_of_some _ e) (Nat.le_refl _) (show ObjOk X.prog X.w _ _ _ (.tup (kvs.map fun kv => kV kv.1)) from ⟨by rw [List.length_map]; exact z, acc'.toList, hv, by rw [Array.toArray_toList]; exact IsTup.new _ _⟩)
  exact ⟨.ref h'.objs.size, _, I2, rfl, q _ (I1.hok.fresh (Nat.le_refl _))⟩
/-- .. with the very object, which has no dict -/
def rTupleDF : List V → Hp → VK → Prop := fun xs H Q => ∃ p kvs, xs = [.ref p] ∧ H p = some (.dK kvs) ∧ ∀ q ob, H q = none → ob.dict = none → Q (.ref q) (upd H q (.frz ob (.tup (kvs.map fun kv => kV kv.1))))
theorem call_tuple_dKF {X : Cx} (hc : X.calm = true) : CallR X (.type "tuple") rTupleDF := by
  intro pins s σ H xs us Q I r h
  obtain ⟨p, kvs, e, hk, q⟩ := h
  subst e
  obtain ⟨u, eu, rx⟩ := vals1 r
  subst eu
  obtain rfl : u = Value.ref p := rx
  obtain ⟨z, lo, vs, rk, hd⟩ := (show ObjOk X.prog X.w H s.heap p (.dK kvs) from I.hok p _ hk)
  obtain ⟨ep, hat⟩ := hd.dictAt
  have hl : kvs.length = vs.length := Paired.length rk
  refine call_tuple_kdl (PySem.W.kdl_dict (knd := mixKind X.prog X.w) (kvs := vs) (ep := ep) lo) (I.ok.hd hc) hat (by rw [← hl]; exact z) fun h' tk acc' hkeep hacc => ?_
  have I1 : Inv X pins σ H { s with heap := h', toks := tk } := I.kept (t' := tk) hkeep
  have hv : Vals (kvs.map fun kv => kV kv.1) acc'.toList := by
    have el : acc'.toList.length = acc'.size := by simp
    refine vals_of_at (by rw [List.length_map, el, hacc.1, hl]) fun j x w h1 h2 => ?_
    obtain ⟨k, y, hky, hi⟩ := hacc.2 j w (by rw [← Array.getElem?_toList]; exact h2)
    have e1 : (kvs.map (·.1))[j]? = some k := by
      rw [KV.keys rk, List.getElem?_map, hky] <;> rfl
    have e2 : (kvs.map fun kv => kV kv.1)[j]? = some (kV k) := by
      have e3 : (kvs.map fun kv => kV kv.1) = (kvs.map (·.1)).map kV := by rw [List.map_map] <;> rfl
      rw [e3, List.getElem?_map, e1] <;> rfl
    rw [e2] at h1
    cases h1
    exact keyIs_rel hi
  have I2 : Inv X pins σ (upd H h'.objs.size (.frz { cls := .type "tuple", data := .seq acc' } (.tup (kvs.map fun kv => kV kv.1)))) { s with heap := h'.push { cls := .type "tuple", data := .seq acc' }, toks := tk } :=
    I1.laid (t' := tk) (fun b o e => Heap.get?_push_of_some _ e) (Nat.le_refl _) (show ObjOk X.prog X.w _ _ _ (.frz _ (.tup (kvs.map fun kv => kV kv.1))) from ⟨Heap.get?_push_size _ rfl, by rw [List.length_map]; exact z, acc'.toList, hv, by rw [Array.toArray_toList]; exact IsTup.new _ _⟩)
  exact ⟨.ref h'.objs.size, _, I2, rfl, q _ _ (I1.hok.fresh (Nat.le_refl _)) rfl⟩
end L2
set_option Elab.async false
set_option linter.all false
set_option maxRecDepth 100000
set_option maxHeartbeats 8000000
namespace OG
open PySem PySem.Spec PyProof.Rows L2
theorem num2 {l : List Nat} : (numQ 14 l = true ∧ (numV l = 0 ∨ numV l ∈ primesL)) ↔ (numQ 2 l = true ∧ (numV l = 0 ∨ numV l ∈ primesL)) := by
  constructor
  · rintro ⟨h, hv⟩
    refine ⟨numQ_iff.mpr ((numQ_iff.mp h).small (by decide) ?_), hv⟩
    have e : (10 : Nat) ^ 2 = 100 := by decide
    rw [e]
    rcases hv with q | q
    · rw [q]
      decide
    · have := prime_le q
      omega
  · rintro ⟨h, hv⟩
    have := numQ_iff.mp h
    exact ⟨numQ_iff.mpr (this.mono (Nat.le_trans this.fn (by decide))), hv⟩
theorem has_key : ∀ {kvs : List (Key × V)} {ms : List Str}, kvs.map (·.1) = ms.map Sum.inr → ∀ z : Str, (valV kvs (.inr z)).isSome = decide (z ∈ ms)
  | [], [], _, z => rfl
  | [], _ :: _, h, _ => by cases h
  | _ :: _, [], h, _ => by cases h
  | p :: r, m :: ms, h, z => by
    have h1 : p.1 = .inr m := (List.cons.inj h).1
    have h2 : r.map (·.1) = ms.map Sum.inr := (List.cons.inj h).2
    by_cases e : z = m
    · rw [valV_pos (by rw [h1, e]), decide_eq_true (by rw [e]; exact List.mem_cons_self)]
      rfl
    · rw [valV_neg (by rw [h1]; exact k_ne fun q => e q.symm), has_key h2 z]
      by_cases hz : z ∈ ms
      · rw [decide_eq_true hz, decide_eq_true (List.mem_cons_of_mem _ hz)]
      · rw [decide_eq_false hz, decide_eq_false fun q => (List.mem_cons.mp q).elim e hz]
theorem ne_nat (n k : Nat) : (!decide (V.int (n : Int) = V.int (k : Int))) = !decide (n = k) := by
  by_cases h : n = k
  · rw [h, decide_eq_true rfl, decide_eq_true rfl]
  · rw [decide_eq_false h, decide_eq_false (fun z : V.int (n : Int) = V.int (k : Int) => h (Int.ofNat.inj (V.int.inj z)))]
theorem eq_nat (n k : Nat) : decide (V.int (n : Int) = V.int (k : Int)) = decide (n = k) := by
  by_cases h : n = k
  · rw [h, decide_eq_true rfl, decide_eq_true rfl]
  · rw [decide_eq_false h, decide_eq_false (fun z : V.int (n : Int) = V.int (k : Int) => h (Int.ofNat.inj (V.int.inj z)))]
/-- a line of a mark -/
def MarkP (b : Int) (ms words : List Str) : Prop := ∃ w1 w2 : Str, words = [("mark" : Str), w1, w2] ∧ ms.length ≠ 4 ∧ isNmB 4 w1 = true ∧ w1 ∉ ms ∧ w2 ≠ "0" ∧ (numQ 14 (tl w2) && wokB b (numV (tl w2))) = true
/-- a line of a kind -/
def KindP (b : Int) (ks : List Str) (m : Nat) (words : List Str) : Prop := ∃ (w1 : Str) (rest : List Str), words = ("kind" : Str) :: w1 :: rest ∧ rest.length = m * m ∧ ks.length ≠ 3 ∧ isNmB 4 w1 = true ∧ w1 ∉ ks ∧ (rest.all fun z => numQ 14 (tl z) && wokB b (numV (tl z))) = true
section
variable {P : Program} {w : World} {K : PySem.W.Frag} {mg : Str → Option Value} {base : Heap}
def isIntV : V → Bool
  | .int _ => true
  | _ => false
def isByV : V → Bool
  | .int n => decide (n = 0) || decide (n ∈ primesL)
  | _ => false
def spIsInteger : Sp := fun vs H Q _ => ∃ v, vs = [v] ∧ (v = .non ∨ ∃ n : Int, v = .int n) ∧ Q (.bl (isIntV v)) H
theorem ok_is_integer (T : Txt K mg) : FnOk P w K mg base CX0 1 T.f_is_integer T.fd_is_integer ["value"] (spIsInteger) := by
  refine T.F_is_integer.ok sc_is_integer (fun vs H Q E h => ?_) (fun cdv A outer s H vs Q E hr h => ?_)
  · obtain ⟨v, rfl, _⟩ := h
    rfl
  · obtain ⟨v, rfl, hv, q⟩ := h
    refine ⟨_, (pss_one (ps_ret (pe_and (pe_callB call_isi (by rfl) T.n_isinstance (by decide +kernel) (pa_cons (pv 0) (pa_cons (pe_bltn (v := .ty "int") (by rfl) T.n_int (by decide +kernel) rfl) pa_nil))) (pe_one (pe_not (pe_callB call_isi (by rfl) T.n_isinstance (by decide +kernel) (pa_cons (pv 0) (pa_cons (pe_bltn (v := .ty "bool") (by rfl) T.n_bool (by decide +kernel) rfl) pa_nil)))))))), ?_⟩
    rcases hv with rfl | ⟨n, rfl⟩
    · refine ⟨.non, rfl, _, _, _, _, _, rfl, .ty _, .base .non, kit_ty (r := false) (by decide +kernel), _, rfl, iteF q⟩
    · refine ⟨.int n, rfl, _, _, _, _, _, rfl, .ty _, .base (.int n), kit_ty (r := true) (by decide +kernel), _, rfl, ?_⟩
      refine iteT ?_
      refine ⟨.int n, rfl, _, _, _, _, _, rfl, .ty _, .base (.int n), kit_ty (r := false) (by decide +kernel), _, rfl, q⟩
def spIsBy : Sp := fun vs H Q _ => ∃ v, vs = [v] ∧ (v = .non ∨ ∃ n : Int, v = .int n) ∧ Q (.bl (isByV v)) H
theorem ok_is_by (T : Txt K mg) : FnOk P w K mg base CX0 2 T.f_is_by T.fd_is_by ["value"] (spIsBy) := by
  refine T.F_is_by.ok sc_is_by (fun vs H Q E h => ?_) (fun cdv A outer s H vs Q E hr h => ?_)
  · obtain ⟨v, rfl, _⟩ := h
    rfl
  · obtain ⟨v, rfl, hv, q⟩ := h
    refine ⟨_, (pss_one (ps_ret (pe_and (pe_call (ok_is_integer T) (hr.mono (by decide)) (by rfl) T.g_is_integer T.F_is_integer.kp T.b_is_integer .nil pass0 (pa_cons (pv 0) pa_nil)) (pe_one (pe_or (pe_cmpR op_eq (pv 0) pe_int (nomark _)) (pe_one (pe_cmpR op_in_seq (pv 0) (C8.pe_gc (by rfl) T.m_PRIMES) rfl))))))), ?_⟩
    refine ⟨v, rfl, v, rfl, hv, _, rfl, ?_⟩
    rcases hv with rfl | ⟨n, rfl⟩
    · exact iteF q
    · refine iteT ?_
      refine ⟨.int n, rfl, rfl, _, rfl, ?_⟩
      show (if decide (V.int n = V.int 0) = true then _ else _)
      by_cases h0 : n = 0
      · rw [decide_eq_true (congrArg V.int h0)]
        have e : isByV (.int n) = true := by
          show (decide (n = 0) || decide (n ∈ primesL)) = _
          rw [decide_eq_true h0]
          rfl
        rw [e] at q
        exact q
      · rw [decide_eq_false (fun z => h0 (V.int.inj z))]
        have e : isByV (.int n) = decide (n ∈ primesL) := by
          show (decide (n = 0) || decide (n ∈ primesL)) = _
          rw [decide_eq_false h0, Bool.false_or]
        rw [e] at q
        refine ⟨.int n, rfl, _, _, rfl, .inr (T.sq_PRIMES _), rfl, flat_ints _, ?_⟩
        rw [inV_int]
        exact q
def spReadBy : Sp := fun vs H Q _ => ∃ (aw : Addr) (words : List Str), vs = [.ref aw] ∧ H aw = some (.lst (words.map V.str)) ∧ words ≠ [] ∧ (∀ z ∈ words, z.length ≤ 10000000) ∧
  ∀ H', Same H H' → Q (match byM words with | none => .non | some b => .int b) H'
theorem ok_read_by (T : Txt K mg) : FnOk P w K mg base CX0 3 T.f_read_by T.fd_read_by ["words"] (spReadBy) := by
  refine T.F_read_by.ok sc_read_by (fun vs H Q E h => ?_) (fun cdv A outer s H vs Q E hr h => ?_)
  · obtain ⟨aw, words, rfl, _⟩ := h
    rfl
  · obtain ⟨aw, words, rfl, hW, wne, wz, q⟩ := h
    refine ⟨_, (pss_cons (ps_if (PW.pt (pw_or (pt_cmpR op_ne (pe_callB call_len_seq (by rfl) T.n_len PySem.boot_len (pa_cons (pv 0) pa_nil)) pe_int (nomark _)) (pw_or1 (pt_cmpR op_ne (pe_ix ix_list (pv 0) pe_int (fun _ _ => rfl)) pe_str (nomark _))))) (pss_one (ps_ret pe_non)) pss_nil)
  (pss_cons (ps_set (i := 1) sc_read_by.nd rfl (Or.inl rfl) (pe_call (ok_integer_of T) (hr.mono (by decide)) (by rfl) T.g_integer_of T.F_integer_of.kp T.b_integer_of .nil pass0 (pa_cons (pe_ix ix_list (pv 0) pe_int (fun _ _ => rfl)) (pa_cons pe_int pa_nil))))
  (pss_one (ps_ret (pe_ifExp (pt_val (pe_call (ok_is_by T) (hr.mono (by decide)) (by rfl) T.g_is_by T.F_is_by.kp T.b_is_by .nil pass0 (pa_cons (pv 1) pa_nil))) (pv 1) pe_non))))), ?_⟩
    have no : byM words = none → Q .non H := fun e => by
      have := q H (Same.refl H)
      rw [e] at this
      exact this
    refine ⟨.ref aw, rfl, aw, _, rfl, .inl (SqL.of hW), rfl, _, rfl, ?_⟩
    rw [List.length_map]
    show (if (!decide (V.int (words.length : Int) = V.int ((2 : Nat) : Int))) = true then _ else _)
    rw [ne_nat]
    by_cases h : words.length = 2
    case neg =>
      rw [decide_eq_false h]
      refine no ?_
      unfold byM
      split
      · exact absurd rfl h
      · rfl
    case pos =>
      rw [decide_eq_true h]
      obtain ⟨w0, w1, rfl⟩ : ∃ w0 w1, words = [w0, w1] := by
        match words, h with
        | [a, b], _ => exact ⟨a, b, rfl⟩
      have em : byM [w0, w1] = if w0 = "book" ∧ numQ 14 (tl w1) = true ∧ (numV (tl w1) = 0 ∨ numV (tl w1) ∈ primesL) then some (numV (tl w1)) else none := rfl
      refine ⟨.ref aw, rfl, aw, _, ((0 : Nat) : Int), _, rfl, rfl, SqL.of hW, atI_nat rfl, rfl, _, rfl, ?_⟩
      show (if (!decide (V.str w0 = V.str "book")) = true then _ else _)
      rw [eq_word]
      by_cases hw : w0 = "book"
      · rw [decide_eq_true hw]
        refine ⟨.ref aw, rfl, aw, _, ((1 : Nat) : Int), .str w1, rfl, rfl, SqL.of hW, atI_nat rfl, w1, 2, rfl, wz w1 (by simp), by decide, fun H1 s1 => ?_⟩
        have q1 := fun H' (s' : Same H1 H') => q H' (s1.trans s')
        rw [em] at q1
        have e2 := num2 (l := tl w1)
        cases c : numQ 2 (tl w1) with
        | false =>
          rw [if_neg (fun z => by
            have := (e2.mp z.2).1
            rw [c] at this
            cases this)] at q1
          refine ⟨.non, rfl, .non, rfl, .inl rfl, ?_⟩
          exact ⟨_, rfl, iteF (q1 H1 (Same.refl _))⟩
        | true =>
          rw [c] at e2
          have e3 : (w0 = "book" ∧ numQ 14 (tl w1) = true ∧ (numV (tl w1) = 0 ∨ numV (tl w1) ∈ primesL)) ↔ (numV (tl w1) = 0 ∨ numV (tl w1) ∈ primesL) := ⟨fun z => z.2.2, fun z => ⟨hw, e2.mpr ⟨rfl, z⟩⟩⟩
          refine ⟨.int (numV (tl w1)), rfl, .int (numV (tl w1)), rfl, .inr ⟨_, rfl⟩, _, rfl, ?_⟩
          generalize numV (tl w1) = n at *
          have eb : isByV (.int n) = decide (n = 0 ∨ n ∈ primesL) := by
            show (decide (n = 0) || decide (n ∈ primesL)) = _
            exact (Bool.decide_or _ _).symm
          rw [eb]
          by_cases hc : n = 0 ∨ n ∈ primesL
          · rw [decide_eq_true hc]
            rw [if_pos (e3.mpr hc)] at q1
            exact iteT ⟨_, rfl, q1 H1 (Same.refl _)⟩
          · rw [decide_eq_false hc]
            rw [if_neg (fun z => hc (e3.mp z))] at q1
            exact iteF (q1 H1 (Same.refl _))
      · rw [decide_eq_false hw]
        refine no ?_
        rw [em, if_neg fun z => hw z.1]
def spMarkP : Sp := fun vs H Q _ => ∃ (aw d : Addr) (b : Int) (kvs : List (Key × V)) (ms words : List Str), vs = [.ref aw, .int b, .ref d] ∧ H aw = some (.lst (words.map V.str)) ∧ H d = some (.dK kvs) ∧ kvs.map (·.1) = ms.map Sum.inr ∧ words ≠ [] ∧ (∀ z ∈ words, z.length ≤ 10000000) ∧ 0 ≤ b ∧ b ≤ 97 ∧
  ∀ r : Bool, (r = true ↔ MarkP b ms words) → ∀ H', Same H H' → Q (.bl r) H'
theorem ok_is_mark (T : Txt K mg) : FnOk P w K mg base CX0 4 T.f_is_mark T.fd_is_mark ["words", "by", "weights"] (spMarkP) := by
  refine T.F_is_mark.ok sc_is_mark (fun vs H Q E h => ?_) (fun cdv A outer s H vs Q E hr h => ?_)
  · obtain ⟨aw, d, b, kvs, ms, words, rfl, _⟩ := h
    rfl
  · obtain ⟨aw, d, b, kvs, ms, words, rfl, hW, hd, hk, wne, wz, b0, b97, q⟩ := h
    refine ⟨_, (pss_cons (ps_if (PW.pt (pw_or (pt_cmpR op_ne (pe_callB call_len_seq (by rfl) T.n_len PySem.boot_len (pa_cons (pv 0) pa_nil)) pe_int (nomark _)) (pw_or (pt_cmpR op_ne (pe_ix ix_list (pv 0) pe_int (fun _ _ => rfl)) pe_str (nomark _)) (pw_or1 (pt_cmpR op_eq (pe_callB call_lenD (by rfl) T.n_len PySem.boot_len (pa_cons (pv 2) pa_nil)) (C8.pe_gc (by rfl) T.m_MOST_MARKS) (nomark _)))))) (pss_one (ps_ret pe_bl)) pss_nil)
  (pss_cons (ps_if (PW.pt (pw_or (pt_not (pt_val (pe_call (ok_is_letters T) (hr.mono (by decide)) (by rfl) T.g_is_letters T.F_is_letters.kp T.b_is_letters .nil pass0 (pa_cons (pe_ix ix_list (pv 0) pe_int (fun _ _ => rfl)) (pa_cons pe_int pa_nil))))) (pw_or1 (pt_cmp (pc_din (hu_of hr) (pe_ix ix_list (pv 0) pe_int (fun _ _ => rfl)) (pv 2)))))) (pss_one (ps_ret pe_bl)) pss_nil)
  (pss_one (ps_ret (pe_and (pe_cmpR op_ne (pe_ix ix_list (pv 0) pe_int (fun _ _ => rfl)) pe_str (nomark _)) (pe_one (pe_call (ok_is_number T) (hr.mono (by decide)) (by rfl) T.g_is_number T.F_is_number.kp T.b_is_number .nil pass0 (pa_cons (pe_ix ix_list (pv 0) pe_int (fun _ _ => rfl)) (pa_cons (pv 1) pa_nil))))))))), ?_⟩
    have no : ¬ MarkP b ms words → ∀ H', Same H H' → Q (.bl false) H' := fun n H' s' => q false ⟨fun z => Bool.noConfusion z, fun z => absurd z n⟩ H' s'
    have lk : kvs.length = ms.length := by
      have := congrArg List.length hk
      rwa [List.length_map, List.length_map] at this
    refine ⟨.ref aw, rfl, aw, _, rfl, .inl (SqL.of hW), rfl, _, rfl, ?_⟩
    rw [List.length_map]
    show (if (!decide (V.int (words.length : Int) = V.int ((3 : Nat) : Int))) = true then _ else _)
    rw [ne_nat]
    by_cases h : words.length = 3
    case neg =>
      rw [decide_eq_false h]
      exact no (fun ⟨_, _, e, _⟩ => h (by rw [e]; rfl)) _ (Same.refl _)
    case pos =>
      rw [decide_eq_true h]
      obtain ⟨w0, w1, w2, rfl⟩ : ∃ w0 w1 w2, words = [w0, w1, w2] := by
        match words, h with
        | [a, b, c], _ => exact ⟨a, b, c, rfl⟩
      refine ⟨.ref aw, rfl, aw, _, ((0 : Nat) : Int), _, rfl, rfl, SqL.of hW, atI_nat rfl, rfl, _, rfl, ?_⟩
      show (if (!decide (V.str w0 = V.str "mark")) = true then _ else _)
      rw [eq_word]
      by_cases hw : w0 = "mark"
      case neg =>
        rw [decide_eq_false hw]
        exact no (fun ⟨_, _, e, _⟩ => hw (List.cons.inj e).1) _ (Same.refl _)
      case pos =>
        rw [decide_eq_true hw]
        refine ⟨.ref d, rfl, d, kvs, rfl, hd, rfl, _, rfl, ?_⟩
        show (if decide (V.int (kvs.length : Int) = V.int ((4 : Nat) : Int)) = true then _ else _)
        rw [eq_nat, lk]
        by_cases h4 : ms.length = 4
        case pos =>
          rw [decide_eq_true h4]
          exact no (fun ⟨_, _, _, e, _⟩ => e h4) _ (Same.refl _)
        case neg =>
          rw [decide_eq_false h4]
          refine ⟨.ref aw, rfl, aw, _, ((1 : Nat) : Int), .str w1, rfl, rfl, SqL.of hW, atI_nat rfl, w1, 4, rfl, wz w1 (by simp), fun H1 s1 => ?_⟩
          refine ⟨_, rfl, ?_⟩
          show (if (!isNmB 4 w1) = true then _ else _)
          cases hn : isNmB 4 w1 with
          | false => exact no (fun ⟨a, c, e, _, e2, _⟩ => by
              have e := (List.cons.inj (List.cons.inj e).2).1
              rw [← e, hn] at e2
              cases e2) _ s1
          | true =>
            refine ⟨.ref aw, rfl, aw, _, ((1 : Nat) : Int), .str w1, rfl, rfl, SqL.of (s1 _ _ hW), atI_nat rfl, .ref d, rfl, d, _, rfl, .inl ⟨kvs, .inr w1, .inl (s1 _ _ hd), rfl, rfl⟩, _, rfl, ?_⟩
            rw [has_key hk]
            by_cases hm : w1 ∈ ms
            case pos =>
              rw [decide_eq_true hm]
              exact no (fun ⟨a, c, e, _, _, e2, _⟩ => by
                have e := (List.cons.inj (List.cons.inj e).2).1
                rw [← e] at e2
                exact e2 hm) _ s1
            case neg =>
              rw [decide_eq_false hm]
              refine ⟨.ref aw, rfl, aw, _, ((2 : Nat) : Int), .str w2, rfl, rfl, SqL.of (s1 _ _ hW), atI_nat rfl, rfl, _, rfl, ?_⟩
              show (if (!decide (V.str w2 = V.str "0")) = true then _ else _)
              rw [eq_word]
              by_cases h0 : w2 = "0"
              case pos =>
                rw [decide_eq_true h0]
                exact no (fun ⟨a, c, e, _, _, _, e2, _⟩ => by
                  have e := (List.cons.inj (List.cons.inj (List.cons.inj e).2).2).1
                  rw [← e] at e2
                  exact e2 h0) _ s1
              case neg =>
                rw [decide_eq_false h0]
                refine ⟨.ref aw, rfl, aw, _, ((2 : Nat) : Int), .str w2, rfl, rfl, SqL.of (s1 _ _ hW), atI_nat rfl, .int b, rfl, w2, b, rfl, wz w2 (by simp), b0, b97, fun H2 s2 => ?_⟩
                refine q _ ⟨fun z => ⟨w1, w2, by rw [hw], h4, hn, hm, h0, z⟩, fun ⟨a, c, e, _, _, _, _, z⟩ => ?_⟩ _ (s1.trans s2)
                have e := (List.cons.inj (List.cons.inj (List.cons.inj e).2).2).1
                rw [e]
                exact z
def spKindP (K : PySem.W.Frag) : Sp := fun vs H Q _ => ∃ (aw d : Addr) (b : Int) (m : Nat) (kvs : List (Key × V)) (ks words : List Str), vs = [.ref aw, .int b, .ref d, .int (m : Int)] ∧ H aw = some (.lst (words.map V.str)) ∧ H d = some (.dK kvs) ∧ kvs.map (·.1) = ks.map Sum.inr ∧ words ≠ [] ∧ words.length ≤ 1000000 ∧ (∀ z ∈ words, z.length ≤ 10000000) ∧ 0 ≤ b ∧ b ≤ 97 ∧ m ≤ 4 ∧
  ∀ r : Bool, (r = true ↔ KindP b ks m words) → ∀ H', Same H H' → Q (.bl r) H'
def fIsN (b : Int) : V → V
  | .str z => .bl (numQ 14 (tl z) && wokB b (numV (tl z)))
  | v => v
theorem ok_is_kind (T : Txt K mg) : FnOk P w K mg base CX0 4 T.f_is_kind T.fd_is_kind ["words", "by", "worths", "marks"] (spKindP K) := by
  refine T.F_is_kind.ok sc_is_kind (fun vs H Q E h => ?_) (fun cdv A outer s H vs Q E hr h => ?_)
  · obtain ⟨aw, d, b, m, kvs, ks, words, rfl, _⟩ := h
    rfl
  · obtain ⟨aw, d, b, m, kvs, ks, words, rfl, hW, hd, hk, wne, wl, wz, b0, b97, m4, q⟩ := h
    refine ⟨_, (pss_cons (ps_if (PW.pt (pw_or (pt_cmpR op_ne (pe_callB call_len_seq (by rfl) T.n_len PySem.boot_len (pa_cons (pv 0) pa_nil)) (pe_op op_add pe_int (pe_op op_mulW (pv 3) (pv 3))) (nomark _)) (pw_or (pt_cmpR op_ne (pe_ix ix_list (pv 0) pe_int (fun _ _ => rfl)) pe_str (nomark _)) (pw_or1 (pt_cmpR op_eq (pe_callB call_lenD (by rfl) T.n_len PySem.boot_len (pa_cons (pv 2) pa_nil)) (C8.pe_gc (by rfl) T.m_MOST_KINDS) (nomark _)))))) (pss_one (ps_ret pe_bl)) pss_nil)
  (pss_cons (ps_if (PW.pt (pw_or (pt_not (pt_val (pe_call (ok_is_letters T) (hr.mono (by decide)) (by rfl) T.g_is_letters T.F_is_letters.kp T.b_is_letters .nil pass0 (pa_cons (pe_ix ix_list (pv 0) pe_int (fun _ _ => rfl)) (pa_cons pe_int pa_nil))))) (pw_or1 (pt_cmp (pc_din (hu_of hr) (pe_ix ix_list (pv 0) pe_int (fun _ _ => rfl)) (pv 2)))))) (pss_one (ps_ret pe_bl)) pss_nil)
  (pss_one (ps_ret (pe_callB (cr_all rfl) (by rfl) T.n_all (by decide +kernel) (pa_cons (pe_lc (own := [("word", 4)]) (g := gName 4) (by rfl) sc_is_kind.nd (pi_list (pe_slice sl_list (pv 0) (po_some pe_int) po_none)) (blkOk_by (own := [("word", 4)]) (by rfl)) (fun _ _ _ _ _ => (pg_name (i := 4) sc_is_kind.nd rfl (Or.inl rfl))) (fun _ _ _ _ _ => pts_nil) (fun _ _ _ _ _ => (pe_call (ok_is_number T) (hr.mono (by decide)) (by rfl) T.g_is_number T.F_is_number.kp T.b_is_number .nil pass0 (pa_cons (pv 4) (pa_cons (pv 1) pa_nil))))) pa_nil)))))), ?_⟩
    have no : ¬ KindP b ks m words → ∀ H', Same H H' → Q (.bl false) H' := fun n H' s' => q false ⟨fun z => Bool.noConfusion z, fun z => absurd z n⟩ H' s'
    have lk : kvs.length = ks.length := by
      have := congrArg List.length hk
      rwa [List.length_map, List.length_map] at this
    refine ⟨.ref aw, rfl, aw, _, rfl, .inl (SqL.of hW), .int (m : Int), rfl, .int (m : Int), rfl, _, _, rfl, rfl, wide_mul (a := 10) (b := 10) (by omega) (by omega) (by decide) (by decide) (by decide), _, _, rfl, rfl, rfl, _, rfl, ?_⟩
    rw [List.length_map]
    have em : (2 : Int) + (m : Int) * (m : Int) = ((2 + m * m : Nat) : Int) := by
      rw [Int.natCast_add, Int.natCast_mul]
      rfl
    show (if (!decide (V.int (words.length : Int) = V.int (2 + (m : Int) * (m : Int)))) = true then _ else _)
    rw [em, ne_nat]
    by_cases h : words.length = 2 + m * m
    case neg =>
      rw [decide_eq_false h]
      exact no (fun ⟨_, _, e, e2, _⟩ => h (by rw [e, List.length_cons, List.length_cons, e2]; omega)) _ (Same.refl _)
    case pos =>
      rw [decide_eq_true h]
      obtain ⟨w0, w1, rest, rfl⟩ : ∃ w0 w1 rest, words = w0 :: w1 :: rest := by
        match words, h with
        | [], h => exact absurd rfl wne
        | [a], h =>
          rw [List.length_singleton] at h
          omega
        | a :: b :: r, _ => exact ⟨a, b, r, rfl⟩
      have hl : rest.length = m * m := by
        rw [List.length_cons, List.length_cons] at h
        omega
      refine ⟨.ref aw, rfl, aw, _, ((0 : Nat) : Int), _, rfl, rfl, SqL.of hW, atI_nat rfl, rfl, _, rfl, ?_⟩
      show (if (!decide (V.str w0 = V.str "kind")) = true then _ else _)
      rw [eq_word]
      by_cases hw : w0 = "kind"
      case neg =>
        rw [decide_eq_false hw]
        exact no (fun ⟨_, _, e, _⟩ => hw (List.cons.inj e).1) _ (Same.refl _)
      case pos =>
        rw [decide_eq_true hw]
        refine ⟨.ref d, rfl, d, kvs, rfl, hd, rfl, _, rfl, ?_⟩
        show (if decide (V.int (kvs.length : Int) = V.int ((3 : Nat) : Int)) = true then _ else _)
        rw [eq_nat, lk]
        by_cases h4 : ks.length = 3
        case pos =>
          rw [decide_eq_true h4]
          exact no (fun ⟨_, _, _, _, e, _⟩ => e h4) _ (Same.refl _)
        case neg =>
          rw [decide_eq_false h4]
          refine ⟨.ref aw, rfl, aw, _, ((1 : Nat) : Int), .str w1, rfl, rfl, SqL.of hW, atI_nat rfl, w1, 4, rfl, wz w1 (by simp), fun H1 s1 => ?_⟩
          refine ⟨_, rfl, ?_⟩
          show (if (!isNmB 4 w1) = true then _ else _)
          cases hn : isNmB 4 w1 with
          | false => exact no (fun ⟨a, c, e, _, _, e2, _⟩ => by
              have e := (List.cons.inj (List.cons.inj e).2).1
              rw [← e, hn] at e2
              cases e2) _ s1
          | true =>
            refine ⟨.ref aw, rfl, aw, _, ((1 : Nat) : Int), .str w1, rfl, rfl, SqL.of (s1 _ _ hW), atI_nat rfl, .ref d, rfl, d, _, rfl, .inl ⟨kvs, .inr w1, .inl (s1 _ _ hd), rfl, rfl⟩, _, rfl, ?_⟩
            rw [has_key hk]
            by_cases hm : w1 ∈ ks
            case pos =>
              rw [decide_eq_true hm]
              exact no (fun ⟨a, c, e, _, _, _, e2, _⟩ => by
                have e := (List.cons.inj (List.cons.inj e).2).1
                rw [← e] at e2
                exact e2 hm) _ s1
            case neg =>
              rw [decide_eq_false hm]
              have ec : cutV ((w0 :: w1 :: rest).map V.str) (some 2) none = rest.map V.str := by
                rw [show (2 : Int) = ((2 : Nat) : Int) from rfl, cut_from]
                rfl
              refine ⟨.ref aw, rfl, _, rfl, aw, _, rfl, SqL.of (s1 _ _ hW), fun sl hsl => ?_⟩
              have s2 := same_new (o := .lst (cutV ((w0 :: w1 :: rest).map V.str) (some 2) none)) hsl
              refine ⟨sl, rfl, ⟨_, SqL.of upd_same⟩, fun D hD => ?_⟩
              refine lc_same (K := K) (xs := rest.map V.str) (fIsN b) (by rw [List.length_map, hl]; exact Nat.le_trans (Nat.mul_le_mul m4 m4) (by decide)) (SqL.of (by rw [upd_same, ec])) hD (fun x H' Q' hx s' hq => ?_) (fun _ => rfl) (fun H6 s6 h6 => ?_)
              · obtain ⟨z, hz, rfl⟩ := List.mem_map.mp hx
                exact ⟨_, rfl, .int b, rfl, z, b, rfl, wz z (List.mem_cons_of_mem _ (List.mem_cons_of_mem _ hz)), b0, b97, fun H'' s'' => hq H'' s''⟩
              have e6 : (rest.map V.str).map (fIsN b) = (rest.map fun z => numQ 14 (tl z) && wokB b (numV (tl z))).map V.bl := by
                rw [List.map_map, List.map_map]
                rfl
              rw [e6] at h6
              refine ⟨D, _, rfl, SqL.of h6, ?_⟩
              rw [all_id]
              refine q _ ⟨fun z => ⟨w1, rest, by rw [hw], hl, h4, hn, hm, z⟩, fun ⟨a, c, e, _, _, _, _, z⟩ => ?_⟩ _ ((s1.trans s2).trans s6)
              have e := (List.cons.inj (List.cons.inj e).2).2
              rw [e]
              exact z
/-! what a line does, by the two -/
theorem step_mark {b : Int} {ms ks words : List Str} (mk : MkOk ms ks) (hk : ks = []) (h : MarkP b ms words) : ∃ w1 w2 : Str, words = [("mark" : Str), w1, w2] ∧ w1 ∉ ms ∧ numQ 14 (tl w2) = true ∧ stepM b ms ks words = some (ms ++ [w1], ks) := by
  obtain ⟨w1, w2, rfl, h4, hn, hm, h0, hz⟩ := h
  have m4 := mk.m4
  refine ⟨w1, w2, rfl, hm, (Bool.and_eq_true_iff.mp hz).1, ?_⟩
  rw [stepM_eq, if_pos (by unfold okLine; rw [hn, List.all_cons, hz]; rfl), if_pos ⟨rfl, hk, by omega, hm, rfl⟩, if_neg fun z => h0 (List.cons.inj z).1]
theorem step_kind {b : Int} {ms ks words : List Str} (mk : MkOk ms ks) (hm : ms ≠ []) (h : KindP b ks ms.length words) : ∃ (w1 : Str) (rest : List Str), words = ("kind" : Str) :: w1 :: rest ∧ w1 ∉ ks ∧ (rest.all fun z => numQ 14 (tl z) && wokB b (numV (tl z))) = true ∧ rest.length = ms.length * ms.length ∧ stepM b ms ks words = some (ms, ks ++ [w1]) := by
  obtain ⟨w1, rest, rfl, hl, h3, hn, hk, hz⟩ := h
  have k3 := mk.k3
  refine ⟨w1, rest, rfl, hk, hz, hl, ?_⟩
  rw [stepM_eq, if_pos (by unfold okLine; rw [hn, hz]; rfl), if_neg fun z => absurd z.1 (by decide +kernel), if_pos ⟨rfl, hl, hm, by omega, hk⟩]
theorem step_none {b : Int} {ms ks words : List Str} (h1 : ¬ (ks = [] ∧ MarkP b ms words)) (h2 : ¬ (ms ≠ [] ∧ KindP b ks ms.length words)) : stepM b ms ks words = none := by
  match words with
  | [] => rfl
  | [_] => rfl
  | w0 :: w1 :: rest =>
    rw [stepM_eq]
    by_cases ho : okLine b w1 rest = true
    · rw [if_pos ho]
      unfold okLine at ho
      obtain ⟨hn, hz⟩ := Bool.and_eq_true_iff.mp ho
      by_cases hm : w0 = "mark" ∧ ks = [] ∧ ms.length < 4 ∧ w1 ∉ ms ∧ rest.length = 1
      · rw [if_pos hm]
        obtain ⟨e0, ek, e4, em, el⟩ := hm
        obtain ⟨z, rfl⟩ : ∃ z, rest = [z] := by
          match rest, el with
          | [z], _ => exact ⟨z, rfl⟩
        by_cases h0 : z = "0"
        · rw [if_pos (by rw [h0])]
        · refine absurd ⟨ek, w1, z, by rw [e0], by omega, hn, em, h0, ?_⟩ h1
          rw [List.all_cons, Bool.and_eq_true] at hz
          exact hz.1
      · rw [if_neg hm]
        by_cases hk : w0 = "kind" ∧ rest.length = ms.length * ms.length ∧ ms ≠ [] ∧ ks.length < 3 ∧ w1 ∉ ks
        · obtain ⟨e0, el, em, e3, ek⟩ := hk
          exact absurd ⟨em, w1, rest, by rw [e0], el, by omega, hn, ek, hz⟩ h2
        · rw [if_neg hk]
    · rw [if_neg ho]
end
end OG
set_option Elab.async false
set_option linter.all false
set_option maxRecDepth 100000
set_option maxHeartbeats 8000000
namespace OG
open PySem PySem.Spec PyProof.Rows L2
/-- the classes -/
structure TxtX (K : PySem.W.Frag) (mg : Str → Option Value) (T : Txt K mg) : Prop where
  exB : OexC K T.c_BadBook
  inB : PySem.W.findIn K (.ref T.c_BadBook) "__init__" = some (some (.ref T.f_GateError_init))
  tyI : PySem.W.typeIn K (.ref T.f_GateError_init) = some (.type "function")
  noV : PySem.W.findIn K (.ref T.c_BadBook) "value" = some none
  xf : XfC K T.c_BadBook
  ec : ExcC K T.c_BadBook
  te : PySem.W.exmOne K (.ref T.c_BadBook) (.ref T.c_GateError) = some true
  kt : PySem.W.kitOne K (.ref T.c_BadBook) (.ref T.c_BadBook) = some true
  cl : Cls K T.c_Book
  mkB : Mk K T.c_Book T.f_Book_init
  na1 : NoAttr K T.c_Book "text"
  na2 : NoAttr K T.c_Book "by"
  na3 : NoAttr K T.c_Book "marks"
  na4 : NoAttr K T.c_Book "kinds"
  na5 : NoAttr K T.c_Book "_weight_by_mark"
  na6 : NoAttr K T.c_Book "_worths_by_kind"
  ca : PySem.W.findIn K (.ref T.c_Book) "__class__" = some (some (.builtin "object.__class__"))
  ob : PySem.W.mroIn K T.c_Book (.type "object") = some true
  kb : PySem.W.kitOne K (.ref T.c_Book) (.ref T.c_Book) = some true
def spGateInit (K : PySem.W.Frag) : Sp := fun vs H Q _ => ∃ (a C : Addr) (y : V), vs = [.ref a, y] ∧ OexC K C ∧ PySem.W.findIn K (.ref C) "value" = some none ∧ H a = some (exo a C none) ∧
  ∀ dx, H dx = none → dx ≠ a → Q .non (upd (upd H dx (exd dx [("value", y)])) a (exo a C (some dx)))
section
variable {P : Program} {w : World} {K : PySem.W.Frag} {mg : Str → Option Value} {base : Heap}
theorem ok_GateError_init (T : Txt K mg) : FnOk P w K mg base CX0 1 T.f_GateError_init T.fd_GateError_init ["self", "value"] (spGateInit K) := by
  refine T.F_GateError_init.ok sc_GateError_init (fun vs H Q E h => ?_) (fun cdv A outer s H vs Q E hr h => ?_)
  · obtain ⟨a, C, y, rfl, _⟩ := h
    rfl
  · obtain ⟨a, C, y, rfl, hC, hno, ha, q⟩ := h
    refine ⟨_, pss_one (ps_ost (pv 0) (pv 1)), ?_⟩
    exact ⟨y, rfl, .ref a, rfl, a, C, rfl, hC, hno, .inl ⟨ha, fun dx n ne => q dx n ne⟩⟩
theorem raised_same {H : Hp} {a dx : Addr} {u1 u2 u3 u4 : HO} (ha : H a = none) (hd : upd H a u1 dx = none) : Same H (upd (del (upd (upd (upd H a u1) dx u2) a u3) a) dx u4) := fun b o e => by
  have n1 : b ≠ a := ne_of_none e ha
  have e1 : upd H a u1 b = some o := by
    rw [upd_ne n1]
    exact e
  have n2 : b ≠ dx := ne_of_none e1 hd
  rw [upd_ne n2, del_ne n1, upd_ne n1, upd_ne n2]
  exact e1
theorem bad_made {T : Txt K mg} (XT : TxtX K mg T) {H : Hp} {y : V} {Qx : XK} (q : ∀ d H', Same H H' → H' d = some (.xd [("value", y)]) → Qx (.ref T.c_BadBook) (some d) H') :
    [y].length ≤ 1000 ∧ ∀ a, H a = none → spGateInit K (.ref a :: ([y] ++ [])) (upd H a (exo a T.c_BadBook none))
      (fun v H2 => v = .non ∧ ∃ (d : Addr) (fs : List (Str × V)), H2 a = some (exo a T.c_BadBook (some d)) ∧ H2 d = some (exd d fs) ∧ H d = none ∧ Qx (.ref T.c_BadBook) (some d) (upd (del H2 a) d (.xd fs))) (fun _ _ _ => False) := by
  refine ⟨by show 1 ≤ 1000; decide, fun a ha => ⟨a, T.c_BadBook, y, rfl, XT.exB, XT.noV, upd_same, fun dx hdx hne => ⟨rfl, dx, [("value", y)], upd_same, ?_, ?_, ?_⟩⟩⟩
  · rw [upd_ne hne, upd_same]
  · rw [upd_ne hne] at hdx
    exact hdx
  · exact q dx _ (raised_same ha hdx) upd_same
theorem ifs_else {c : TT} {t u : TS} {D : Ends} {σ : L2.St} {H : Hp} (R : Hp → Prop) (he : ∀ H', R H' → u D σ H') (h : (∀ H', R H' → u D σ H') → c σ H fun b H1 => if b = true then t D σ H1 else u D σ H1) : tIfS c t u D σ H := h he
def fIntS : V → V
  | .str z => .int (numV (tl z))
  | v => v
def spRead (T : Txt K mg) : Sp := fun vs H Q E => ∃ z : Str, vs = [.str z] ∧ z.length ≤ 900000 ∧
  (∀ n : Nat, wrongM z = some n → ∀ (d : Addr) (H' : Hp), Same H H' → H' d = some (.xd [("value", .int (n : Int))]) → E (.ref T.c_BadBook) (some d) H') ∧
  (wrongM z = none → ∀ (t a1 a2 : Addr) (b : Int) (kv1 kv2 : List (Key × V)) (H' : Hp), Same H H' → H' t = some (.tup [.int b, .ref a1, .ref a2]) → H' a1 = some (.dK kv1) → H' a2 = some (.dK kv2) → Q (.ref t) H')
theorem ok_read_book (T : Txt K mg) (XT : TxtX K mg T) : FnOk P w K mg base (L2.CX P w) 5 T.f_read_book T.fd_read_book ["text"] (spRead T) := by
  refine T.F_read_book.okX sc_read_book (fun vs H Q E h => ?_) (fun cdv A outer s H vs Q E hr h => ?_)
  · obtain ⟨z, rfl, _⟩ := h
    rfl
  · obtain ⟨z, rfl, hz, qe, qn⟩ := h
    refine ⟨_, (pss_cons (ps_set (i := 1) sc_read_book.nd rfl (Or.inl rfl) (pe_split (pv 0) pe_str))
  (pss_cons (ps_set (i := 2) sc_read_book.nd rfl (Or.inl rfl) (pe_call (ok_read_by T) (hr.mono (by decide)) (by rfl) T.g_read_by T.F_read_by.kp T.b_read_by .nil pass0 (pa_cons (pe_split (pe_ix ix_list (pv 1) pe_int (fun _ _ => rfl)) pe_str) pa_nil)))
  (pss_cons (ps_if (pt_cmpR op_isN (pv 2) pe_non (nomark _)) (pss_one (ps_raise rfl (takes_of rfl rfl rfl rfl) (pmk_oex XT.exB XT.inB XT.tyI (ok_GateError_init T) (hr.mono (by decide)) T.b_GateError_init .nil pass0 (by rfl) T.g_BadBook (pa_cons pe_int pa_nil)))) pss_nil)
  (pss_cons (ps_set (i := 3) sc_read_book.nd rfl (Or.inl rfl) pe_dnewK)
  (pss_cons (ps_set (i := 4) sc_read_book.nd rfl (Or.inl rfl) pe_dnewK)
  (pss_cons (ps_for (passes_of rfl) rfl (OGX.pi_enumS (by rfl) T.n_enumerate (pa_cons (pe_slice sl_list (pv 1) (po_some pe_int) po_none) pa_nil) (pk_cons pe_int pk_nil)) (pg_tup (by rfl) (pgs_cons (pg_name (i := 5) sc_read_book.nd rfl (Or.inl rfl)) (pgs_cons (pg_name (i := 6) sc_read_book.nd rfl (Or.inl rfl)) pgs_nil))) (pss_cons (ps_set (i := 7) sc_read_book.nd rfl (Or.inl rfl) (pe_split (pv 6) pe_str))
  (pss_one (ps_if (PW.pt (pw_and (pt_not (pt_truth (pv 4) (by intro _; rfl))) (pw_and1 (pt_val (pe_call (ok_is_mark T) (hr.mono (by decide)) (by rfl) T.g_is_mark T.F_is_mark.kp T.b_is_mark .nil pass0 (pa_cons (pv 7) (pa_cons (pv 2) (pa_cons (pv 3) pa_nil)))))))) (pss_one (ps_dput (hu_of hr) (pv 3) (pe_ix ix_list (pv 7) pe_int (fun _ _ => rfl)) (pe_callTy call_int_str (by rfl) T.n_int (by decide +kernel) (pa_cons (pe_ix ix_list (pv 7) pe_int (fun _ _ => rfl)) pa_nil)) rfl)) (pss_one (ps_if (PW.pt (pw_and (pt_truth (pv 3) (by intro _; rfl)) (pw_and1 (pt_val (pe_call (ok_is_kind T) (hr.mono (by decide)) (by rfl) T.g_is_kind T.F_is_kind.kp T.b_is_kind .nil pass0 (pa_cons (pv 7) (pa_cons (pv 2) (pa_cons (pv 4) (pa_cons (pe_callB call_lenD (by rfl) T.n_len PySem.boot_len (pa_cons (pv 3) pa_nil)) pa_nil))))))))) (pss_one (ps_dput (hu_of hr) (pv 4) (pe_ix ix_list (pv 7) pe_int (fun _ _ => rfl)) (pe_callTy call_tuple_of (by rfl) T.n_tuple (by decide +kernel) (pa_cons (pe_lc (own := [("word", 8)]) (g := gName 8) (by rfl) sc_read_book.nd (pi_list (pe_slice sl_list (pv 7) (po_some pe_int) po_none)) (blkOk_by (own := [("word", 8)]) (by rfl)) (fun _ _ _ _ _ => (pg_name (i := 8) sc_read_book.nd rfl (Or.inl rfl))) (fun _ _ _ _ _ => pts_nil) (fun _ _ _ _ _ => (pe_callTy call_int_str (by rfl) T.n_int (by decide +kernel) (pa_cons (pv 8) pa_nil)))) pa_nil)) rfl)) (pss_one (ps_raise rfl (takes_of rfl rfl rfl rfl) (pmk_oex XT.exB XT.inB XT.tyI (ok_GateError_init T) (hr.mono (by decide)) T.b_GateError_init .nil pass0 (by rfl) T.g_BadBook (pa_cons (pv 5) pa_nil))))))))))
  (pss_cons (ps_if (pt_not (pt_truth (pv 4) (by intro _; rfl))) (pss_one (ps_raise rfl (takes_of rfl rfl rfl rfl) (pmk_oex XT.exB XT.inB XT.tyI (ok_GateError_init T) (hr.mono (by decide)) T.b_GateError_init .nil pass0 (by rfl) T.g_BadBook (pa_cons (pe_op op_add (pe_callB call_len_seq (by rfl) T.n_len PySem.boot_len (pa_cons (pv 1) pa_nil)) pe_int) pa_nil)))) pss_nil)
  (pss_one (ps_ret (pe_tup (pa_cons (pv 2) (pa_cons (pv 3) (pa_cons (pv 4) pa_nil))))))))))))), ?_⟩
    obtain ⟨n1, l1, p1⟩ := split_facts z "\n" rfl (by decide +kernel)
    have em : wrongM z = match byM (Txt.split ((Txt.split z "\n").head?.getD "") " ") with
      | none => some 1
      | some b => match walkM b ((Txt.split z "\n").drop 1) 2 [] [] with
        | .inl i => some i
        | .inr mk => if mk.2 = [] then some ((Txt.split z "\n").length + 1) else none := rfl
    rw [em] at qe qn
    obtain ⟨ls, hls⟩ : ∃ ls, Txt.split z "\n" = ls := ⟨_, rfl⟩
    rw [hls] at qe qn n1 l1 p1
    refine ⟨.str z, rfl, ⟨_, rfl⟩, z, _, rfl, rfl, rfl, le_line (by omega), fun pl hpl => ?_⟩
    rw [hls]
    have s1 := same_new (o := .lst (ls.map V.str)) hpl
    have hpl1 : (upd H pl (.lst (ls.map V.str))) pl = some (.lst (ls.map V.str)) := upd_same
    generalize upd H pl (.lst (ls.map V.str)) = H1 at *
    obtain ⟨l0, lr, rfl⟩ : ∃ l0 lr, ls = l0 :: lr := by
      cases ls with
      | nil => exact absurd rfl n1
      | cons a b => exact ⟨a, b, rfl⟩
    have hl0 : l0.length ≤ 900000 := Nat.le_trans (p1 l0 List.mem_cons_self) hz
    refine ⟨.ref pl, rfl, pl, _, ((0 : Nat) : Int), _, rfl, rfl, SqL.of hpl1, atI_nat rfl, ⟨_, rfl⟩, l0, _, rfl, rfl, rfl, le_line (by omega), fun wl hwl => ?_⟩
    obtain ⟨m1, m2, m3⟩ := split_facts l0 " " rfl (by decide +kernel)
    have s2 := same_new (o := .lst ((Txt.split l0 " ").map V.str)) hwl
    refine ⟨wl, Txt.split l0 " ", rfl, upd_same, m1, fun y hy => Nat.le_trans (m3 y hy) (by omega), fun H2 s3 => ?_⟩
    have sA := (s1.trans s2).trans s3
    have hpl2 := s3 _ _ (s2 _ _ hpl1)
    have qe : ∀ n : Nat, (match byM (Txt.split l0 " ") with
      | none => some 1
      | some b => match walkM b lr 2 [] [] with
        | .inl i => some i
        | .inr mk => if mk.2 = [] then some (lr.length + 1 + 1) else none) = some n → ∀ (d : Addr) (H' : Hp), Same H H' → H' d = some (.xd [("value", .int (n : Int))]) → E (.ref T.c_BadBook) (some d) H' := qe
    have qn : (match byM (Txt.split l0 " ") with
      | none => some 1
      | some b => match walkM b lr 2 [] [] with
        | .inl i => some i
        | .inr mk => if mk.2 = [] then some (lr.length + 1 + 1) else none) = none → ∀ (t a1 a2 : Addr) (b : Int) (kv1 kv2 : List (Key × V)) (H' : Hp), Same H H' → H' t = some (.tup [.int b, .ref a1, .ref a2]) → H' a1 = some (.dK kv1) → H' a2 = some (.dK kv2) → Q (.ref t) H' := qn
    cases hb : byM (Txt.split l0 " ") with
    | none =>
      rw [hb] at qe
      refine ⟨_, rfl, rfl, _, rfl, ?_⟩
      refine bad_made XT fun d H' s' hd => ?_
      exact qe 1 rfl d H' (sA.trans s') hd
    | some b =>
      rw [hb] at qe qn
      obtain ⟨b0, b97⟩ := byM_ok hb
      refine ⟨.int b, rfl, rfl, _, rfl, ?_⟩
      refine iteF ?_
      dsimp only [tNext]
      refine fun a1 ha1 => ?_
      refine fun a2 ha2 => ?_
      have n12 : a1 ≠ a2 := fun e => by
        rw [← e, upd_same] at ha2
        cases ha2
      have t1 := same_new (o := .dK []) ha1
      have t2 := same_new (o := .dK []) ha2
      have h1 : (upd (upd H2 a1 (.dK [])) a2 (.dK [])) a1 = some (.dK []) := t2 _ _ upd_same
      have h2 : (upd (upd H2 a1 (.dK [])) a2 (.dK [])) a2 = some (.dK []) := upd_same
      have nH1 : ∀ x o, H x = some o → x ≠ a1 := fun x o e => ne_of_none (sA _ _ e) ha1
      have nH2 : ∀ x o, H x = some o → x ≠ a2 := fun x o e => ne_of_none (t1 _ _ (sA _ _ e)) ha2
      have hpl3 := t2 _ _ (t1 _ _ hpl2)
      have sB := (sA.trans t1).trans t2
      have npl1 : pl ≠ a1 := ne_of_none hpl2 ha1
      have npl2 : pl ≠ a2 := ne_of_none (t1 _ _ hpl2) ha2
      generalize upd (upd H2 a1 (.dK [])) a2 (.dK []) = H3 at *
      have ec : cutV ((l0 :: lr).map V.str) (some 1) none = lr.map V.str := by
        rw [show (1 : Int) = ((1 : Nat) : Int) from rfl, cut_from]
        rfl
      refine ⟨.ref pl, rfl, _, rfl, pl, _, rfl, SqL.of hpl3, fun sl hsl => ?_⟩
      have s4 := same_new (o := .lst (cutV ((l0 :: lr).map V.str) (some 1) none)) hsl
      refine ⟨sl, _, 2, rfl, rfl, by decide, SqL.of upd_same, ?_⟩
      rw [ec] at s4 ⊢
      have hsl4 : (upd H3 sl (.lst (lr.map V.str))) sl = some (.lst (lr.map V.str)) := upd_same
      have nsl1 : sl ≠ a1 := ne_of_none' h1 hsl
      have nsl2 : sl ≠ a2 := ne_of_none' h2 hsl
      have h1 := s4 _ _ h1
      have h2 := s4 _ _ h2
      have hpl4 := s4 _ _ hpl3
      have sC := sB.trans s4
      generalize upd H3 sl (.lst (lr.map V.str)) = H4 at *
      have kS : ∀ H9, K2 a1 a2 H4 H9 → Same H H9 := fun H9 k9 a o ho => k9 a o (nH1 a o ho) (nH2 a o ho) (sC _ _ ho)
      refine OGX.for_enumS (K := K) (a := sl) (xs := lr.map V.str) (m0 := 2) (fun i σ H' => ∃ (v5 v6 v7 : Option V) (ms ks : List Str) (kv1 kv2 : List (Key × V)), σ = [some (.str z), some (.ref pl), some (.int b), some (.ref a1), some (.ref a2), v5, v6, v7, none] ∧ K2 a1 a2 H4 H' ∧
          H' a1 = some (.dK kv1) ∧ H' a2 = some (.dK kv2) ∧ kv1.map (·.1) = ms.map Sum.inr ∧ kv2.map (·.1) = ks.map Sum.inr ∧ MkOk ms ks ∧ i ≤ lr.length ∧ walkM b lr 2 [] [] = walkM b (lr.drop i) (i + 2) ms ks)
        ⟨none, none, none, [], [], [], [], rfl, fun _ _ _ _ h => h, h1, h2, rfl, rfl, MkOk.nil, Nat.zero_le _, rfl⟩ (fun i σ H' ⟨_, _, _, _, _, _, _, _, k2, _⟩ => SqL.of (k2 _ _ nsl1 nsl2 hsl4)) ?_ ?_
      · rintro i x T0 σ H5 hx ⟨v5, v6, v7, ms, ks, kv1, kv2, rfl, k2, g1, g2, e1, e2, mk, hi, hw⟩ hT0
        obtain ⟨l, hl, rfl⟩ := str_at hx
        have hil : i < lr.length := (List.getElem?_eq_some_iff.mp hl).1
        have ll : l.length ≤ 900000 := Nat.le_trans (p1 l (List.mem_cons_of_mem _ (List.mem_of_getElem? hl))) hz
        have u1 := same_new (o := .tup [.int ((2 + i : Nat) : Int), .str l]) hT0
        refine ⟨T0, _, rfl, SqT.of upd_same, rfl, _, _, rfl, _, _, rfl, rfl, ?_⟩
        refine ⟨.str l, rfl, ⟨_, rfl⟩, l, _, rfl, rfl, rfl, le_line (by omega), fun aw haw => ?_⟩
        obtain ⟨c1, c2, c3⟩ := split_facts l " " rfl (by decide +kernel)
        have u2 := same_new (o := .lst ((Txt.split l " ").map V.str)) haw
        have hW : (upd (upd H5 T0 (.tup [.int ((2 + i : Nat) : Int), .str l])) aw (.lst ((Txt.split l " ").map V.str))) aw = some (.lst ((Txt.split l " ").map V.str)) := upd_same
        have k3 := (u1.trans u2)
        generalize upd (upd H5 T0 (.tup [.int ((2 + i : Nat) : Int), .str l])) aw (.lst ((Txt.split l " ").map V.str)) = H6 at *
        have g1 := k3 _ _ g1
        have g2 := k3 _ _ g2
        have k6 : K2 a1 a2 H4 H6 := fun x o n1 n2 ho => k3 _ _ (k2 x o n1 n2 ho)
        have wdrop : lr.drop i = l :: lr.drop (i + 1) := by
          rw [List.drop_eq_getElem_cons hil]
          have e := (List.getElem?_eq_some_iff.mp hl).2
          rw [e]
        rw [wdrop] at hw
        have hw : walkM b lr 2 [] [] = match stepM b ms ks (Txt.split l " ") with
          | none => Sum.inl (i + 2)
          | some mk => walkM b (lr.drop (i + 1)) (i + 2 + 1) mk.1 mk.2 := hw
        generalize Txt.split l " " = words at *
        have wz : ∀ y ∈ words, y.length ≤ 10000000 := fun y hy => Nat.le_trans (c3 y hy) (by omega)
        dsimp only [gName]
        have lk1 : kv1.length = ms.length := by
          have := congrArg List.length e1
          rwa [List.length_map, List.length_map] at this
        have lk2 : kv2.length = ks.length := by
          have := congrArg List.length e2
          rwa [List.length_map, List.length_map] at this
        refine ifs_else (fun H7 => Same H6 H7 ∧ ¬ (ks = [] ∧ MarkP b ms words)) ?_ (fun fin => ?_)
        · rintro H7 ⟨s7, nm⟩
          have g1 := s7 _ _ g1
          have g2 := s7 _ _ g2
          have hW := s7 _ _ hW
          have k7 : K2 a1 a2 H4 H7 := fun x o n1 n2 ho => s7 _ _ (k6 x o n1 n2 ho)
          refine ifs_else (fun H8 => Same H7 H8 ∧ ¬ (ms ≠ [] ∧ KindP b ks ms.length words)) ?_ (fun fin2 => ?_)
          · rintro H8 ⟨s8, nk⟩
            have k8 : K2 a1 a2 H4 H8 := fun x o n1 n2 ho => s8 _ _ (k7 x o n1 n2 ho)
            have en := step_none nm nk
            rw [en] at hw
            refine ⟨.int ((2 + i : Nat) : Int), rfl, ?_⟩
            refine bad_made XT fun d H' s' hd => ?_
            refine qe (i + 2) ?_ d H' ((kS _ k8).trans s') ?_
            · show (match walkM b lr 2 [] [] with
                | .inl i => some i
                | .inr mk => if mk.2 = [] then some (lr.length + 1 + 1) else none) = _
              rw [hw]
            · rw [show i + 2 = 2 + i by omega]
              exact hd
          · refine ⟨.ref a1, rfl, _, .inr (.inr ⟨kv1, g1, rfl⟩), ?_⟩
            by_cases hms : ms = []
            case pos =>
              have e0 : kv1 = [] := List.length_eq_zero_iff.mp (by rw [lk1, hms]; rfl)
              rw [e0]
              exact fin2 _ ⟨Same.refl _, fun z => z.1 hms⟩
            case neg =>
              have e0 : kv1.isEmpty = false := by
                cases kv1 with
                | nil => exact absurd (List.length_eq_zero_iff.mp (by rw [← lk1]; rfl)) hms
                | cons a b => rfl
              rw [e0]
              refine ⟨.ref aw, rfl, .int b, rfl, .ref a2, rfl, .ref a1, rfl, a1, kv1, rfl, g1, aw, a2, b, ms.length, kv2, ks, words, (by rw [lk1]; rfl), hW, g2, e2, c1, by omega, wz, b0, b97, mk.m4, fun r hrr H8 s8 => ?_⟩
              refine ⟨_, rfl, ?_⟩
              cases r with
              | false => exact fin2 _ ⟨s8, fun z => by
                  have := hrr.mpr z.2
                  cases this⟩
              | true =>
                obtain ⟨w1, rest, rfl, hwk, hz', hlr, est⟩ := step_kind mk hms (hrr.mp rfl)
                rw [est] at hw
                have hW := s8 _ _ hW
                have k8 : K2 a1 a2 H4 H8 := fun x o n1 n2 ho => s8 _ _ (k7 x o n1 n2 ho)
                have ec2 : cutV ((("kind" : Str) :: w1 :: rest).map V.str) (some 2) none = rest.map V.str := by
                  rw [show (2 : Int) = ((2 : Nat) : Int) from rfl, cut_from]
                  rfl
                refine ⟨.ref aw, rfl, _, rfl, aw, _, rfl, SqL.of hW, fun sl2 hsl2 => ?_⟩
                have v1 := same_new (o := .lst (cutV ((("kind" : Str) :: w1 :: rest).map V.str) (some 2) none)) hsl2
                refine ⟨sl2, rfl, ⟨_, SqL.of upd_same⟩, fun D hD => ?_⟩
                refine lc_same (K := K) (xs := rest.map V.str) fIntS (by rw [List.length_map, hlr]; exact Nat.le_trans (Nat.mul_le_mul mk.m4 mk.m4) (by decide)) (SqL.of (by rw [upd_same, ec2])) hD (fun x H' Q' hx s' hq => ?_) (fun _ => rfl) (fun H9 s9 h9 => ?_)
                · obtain ⟨y, hy, rfl⟩ := List.mem_map.mp hx
                  have hy2 := List.all_eq_true.mp hz' y hy
                  have nq := numQ_iff.mp (Bool.and_eq_true_iff.mp hy2).1
                  exact ⟨.str y, rfl, y, numV (tl y), rfl, intText_num nq (Nat.le_trans nq.len (by decide)), Nat.le_trans nq.len (by decide), hq H' (Same.refl _)⟩
                refine ⟨D, _, rfl, .inl ⟨SqL.of h9, fun t ht => ?_⟩⟩
                have v2 := same_new (o := .tup ((rest.map V.str).map fIntS)) ht
                have sF := ((s8.trans v1).trans s9).trans v2
                have sG := (v1.trans s9).trans v2
                refine ⟨.ref a2, rfl, .ref aw, rfl, aw, _, ((1 : Nat) : Int), .str w1, rfl, rfl, SqL.of (sG _ _ hW), atI_nat rfl, a2, _, rfl, .inl ⟨kv2, .inr w1, sF _ _ g2, rfl, Nat.lt_of_le_of_lt (show kv2.length ≤ 3 by rw [lk2]; exact mk.k3) (by decide), rfl⟩, ?_⟩
                have hkn : valV kv2 (.inr w1) = none := by
                  have := has_key e2 w1
                  rw [decide_eq_false hwk] at this
                  exact Option.isNone_iff_eq_none.mp (by rw [← Option.not_isSome, this]; rfl)
                refine ⟨_, _, _, ms, ks ++ [w1], kv1, putK kv2 (.inr w1) (.ref t), rfl, fun x o n1 n2 ho => ?_, ?_, upd_same, e1, ?_, mk.step est, by omega, hw⟩
                · rw [upd_ne n2]
                  exact sG _ _ (k8 x o n1 n2 ho)
                · rw [upd_ne n12]
                  exact sF _ _ g1
                · rw [putK_new _ hkn, List.map_append, e2, List.map_append]
                  rfl
        · refine ⟨.ref a2, rfl, _, .inr (.inr ⟨kv2, g2, rfl⟩), ?_⟩
          by_cases hks : ks = []
          case neg =>
            have e0 : kv2.isEmpty = false := by
              cases kv2 with
              | nil => exact absurd (List.length_eq_zero_iff.mp (by rw [← lk2]; rfl)) hks
              | cons a b => rfl
            rw [e0]
            exact fin _ ⟨Same.refl _, fun z => hks z.1⟩
          case pos =>
            have e0 : kv2 = [] := List.length_eq_zero_iff.mp (by rw [lk2, hks]; rfl)
            rw [e0]
            refine ⟨.ref aw, rfl, .int b, rfl, .ref a1, rfl, aw, a1, b, kv1, ms, words, rfl, hW, g1, e1, c1, wz, b0, b97, fun r hrr H8 s8 => ?_⟩
            refine ⟨_, rfl, ?_⟩
            cases r with
            | false => exact fin _ ⟨s8, fun z => by
                have := hrr.mpr z.2
                cases this⟩
            | true =>
              obtain ⟨w1, w2, rfl, hwk, hq2, est⟩ := step_mark mk hks (hrr.mp rfl)
              rw [est] at hw
              have hW := s8 _ _ hW
              have k8 : K2 a1 a2 H4 H8 := fun x o n1 n2 ho => s8 _ _ (k6 x o n1 n2 ho)
              have nq := numQ_iff.mp hq2
              refine ⟨.ref aw, rfl, aw, _, ((2 : Nat) : Int), .str w2, rfl, rfl, SqL.of hW, atI_nat rfl, w2, numV (tl w2), rfl, intText_num nq (Nat.le_trans nq.len (by decide)), Nat.le_trans nq.len (by decide), ?_⟩
              refine ⟨.ref a1, rfl, .ref aw, rfl, aw, _, ((1 : Nat) : Int), .str w1, rfl, rfl, SqL.of hW, atI_nat rfl, a1, _, rfl, .inl ⟨kv1, .inr w1, s8 _ _ g1, rfl, Nat.lt_of_le_of_lt (show kv1.length ≤ 4 by rw [lk1]; exact mk.m4) (by decide), rfl⟩, ?_⟩
              have hkn : valV kv1 (.inr w1) = none := by
                have := has_key e1 w1
                rw [decide_eq_false hwk] at this
                exact Option.isNone_iff_eq_none.mp (by rw [← Option.not_isSome, this]; rfl)
              refine ⟨_, _, _, ms ++ [w1], ks, putK kv1 (.inr w1) (.int (numV (tl w2))), kv2, rfl, fun x o n1 n2 ho => ?_, upd_same, ?_, ?_, e2, mk.step est, by omega, hw⟩
              · rw [upd_ne n1]
                exact k8 x o n1 n2 ho
              · rw [upd_ne n12.symm]
                exact s8 _ _ g2
              · rw [putK_new _ hkn, List.map_append, e1, List.map_append]
                rfl
      · rintro σ H5 ⟨v5, v6, v7, ms, ks, kv1, kv2, rfl, k2, g1, g2, e1, e2, mk, hi, hw⟩
        rw [List.length_map, List.drop_length] at hw
        have hw : walkM b lr 2 [] [] = .inr (ms, ks) := hw
        have sF := kS _ k2
        have lk2 : kv2.length = ks.length := by
          have := congrArg List.length e2
          rwa [List.length_map, List.length_map] at this
        refine ⟨.ref a2, rfl, _, .inr (.inr ⟨kv2, g2, rfl⟩), ?_⟩
        by_cases hks : ks = []
        case pos =>
          have e0 : kv2 = [] := List.length_eq_zero_iff.mp (by rw [lk2, hks]; rfl)
          rw [e0]
          refine ⟨.ref pl, rfl, pl, _, rfl, .inl (SqL.of (k2 _ _ npl1 npl2 hpl4)), _, _, rfl, rfl, ?_⟩
          refine bad_made XT fun d H' s' hd => ?_
          refine qe (lr.length + 1 + 1) ?_ d H' (sF.trans s') ?_
          · show (match walkM b lr 2 [] [] with
              | .inl i => some i
              | .inr mk => if mk.2 = [] then some (lr.length + 1 + 1) else none) = _
            rw [hw]
            exact if_pos hks
          · rw [List.length_map, List.length_cons] at hd
            exact hd
        case neg =>
          have e0 : kv2.isEmpty = false := by
            cases kv2 with
            | nil => exact absurd (List.length_eq_zero_iff.mp (by rw [← lk2]; rfl)) hks
            | cons a b => rfl
          rw [e0]
          refine ⟨.int b, rfl, .ref a1, rfl, .ref a2, rfl, Nat.le_trans (show 3 ≤ 1000 by decide) (by decide), fun t ht => ?_⟩
          have st := same_new (o := .tup [.int b, .ref a1, .ref a2]) ht
          refine qn ?_ t a1 a2 b kv1 kv2 _ (sF.trans st) upd_same (st _ _ g1) (st _ _ g2)
          show (match walkM b lr 2 [] [] with
            | .inl i => some i
            | .inr mk => if mk.2 = [] then some (lr.length + 1 + 1) else none) = _
          rw [hw]
          exact if_neg hks
end
end OG
set_option Elab.async false
set_option linter.all false
set_option maxRecDepth 100000
set_option maxHeartbeats 8000000
namespace OG
open PySem PySem.Spec PyProof.Rows L2
/-- a dict of worths -/
def KvK (H : Hp) (kv : List (Key × V)) (kw : List (Str × List Int)) : Prop := Paired (fun (p : Key × V) (q : Str × List Int) => p.1 = Sum.inr q.1 ∧ ∃ t, p.2 = V.ref t ∧ H t = some (.tup (q.2.map V.int))) kv kw
def kvM (mw : List (Str × Int)) : List (Key × V) := mw.map fun p => (Sum.inr p.1, V.int p.2)
theorem kvM_keys (mw : List (Str × Int)) : (kvM mw).map (·.1) = (mw.map (·.1)).map Sum.inr := by
  unfold kvM
  rw [List.map_map, List.map_map]
  rfl
theorem KvK.keys {H : Hp} : ∀ {kv : List (Key × V)} {kw : List (Str × List Int)}, KvK H kv kw → kv.map (·.1) = (kw.map (·.1)).map Sum.inr
  | _, _, .nil => rfl
  | _, _, .cons h r => by
    rw [List.map_cons, List.map_cons, List.map_cons, KvK.keys r, h.1]
theorem KvK.k2 {a1 a2 : Addr} {H H' : Hp} {u1 u2 : List (Key × V)} (k : K2 a1 a2 H H') (h1 : H a1 = some (.dK u1)) (h2 : H a2 = some (.dK u2)) : ∀ {kv : List (Key × V)} {kw : List (Str × List Int)}, KvK H kv kw → KvK H' kv kw
  | _, _, .nil => .nil
  | _, _, .cons h r => by
    obtain ⟨e, t, et, ht⟩ := h
    refine .cons ⟨e, t, et, k t _ (fun z => ?_) (fun z => ?_) ht⟩ (KvK.k2 k h1 h2 r)
    · rw [z, h1] at ht
      cases ht
    · rw [z, h2] at ht
      cases ht
theorem KvK.snoc {H : Hp} {x : Str} {l : List Int} {t : Addr} (ht : H t = some (.tup (l.map V.int))) : ∀ {kv : List (Key × V)} {kw : List (Str × List Int)}, KvK H kv kw → KvK H (kv ++ [(Sum.inr x, V.ref t)]) (kw ++ [(x, l)])
  | _, _, .nil => .cons ⟨rfl, t, rfl, ht⟩ .nil
  | _, _, .cons h r => .cons h (KvK.snoc ht r)
theorem stepD_mark {b : Int} {mw : List (Str × Int)} {kw : List (Str × List Int)} {w1 w2 : Str} {q : List Str × List Str} (h : stepM b (mw.map (·.1)) (kw.map (·.1)) [("mark" : Str), w1, w2] = some q) : stepD b mw kw [("mark" : Str), w1, w2] = some (mw ++ [(w1, numV (tl w2))], kw) := by
  unfold stepD
  rw [h]
  show (if ("mark" : Str) = "mark" then some (mw ++ [(w1, numV (tl w2))], kw) else _) = _
  rw [if_pos rfl]
theorem stepD_kind {b : Int} {mw : List (Str × Int)} {kw : List (Str × List Int)} {w1 : Str} {rest : List Str} {q : List Str × List Str} (h : stepM b (mw.map (·.1)) (kw.map (·.1)) (("kind" : Str) :: w1 :: rest) = some q) : stepD b mw kw (("kind" : Str) :: w1 :: rest) = some (mw, kw ++ [(w1, rest.map fun z => numV (tl z))]) := by
  unfold stepD
  rw [h]
  show (if ("kind" : Str) = "mark" then _ else some (mw, kw ++ [(w1, rest.map fun z => numV (tl z))])) = _
  rw [if_neg (by decide +kernel)]
section
variable {P : Program} {w : World} {K : PySem.W.Frag} {mg : Str → Option Value} {base : Heap}
def spReadX (T : Txt K mg) : Sp := fun vs H Q E => ∃ z : Str, vs = [.str z] ∧ z.length ≤ 900000 ∧
  (∀ n : Nat, wrongM z = some n → ∀ (d : Addr) (H' : Hp), Same H H' → H' d = some (.xd [("value", .int (n : Int))]) → E (.ref T.c_BadBook) (some d) H') ∧
  (wrongM z = none → ∀ (t a1 a2 : Addr) (b : Int) (mw : List (Str × Int)) (kw : List (Str × List Int)) (kv2 : List (Key × V)) (H' : Hp), Same H H' → H a1 = none → H a2 = none → H' t = some (.tup [.int b, .ref a1, .ref a2]) → H' a1 = some (.dK (kvM mw)) → H' a2 = some (.dK kv2) → KvK H' kv2 kw →
    byM (Txt.split ((Txt.split z "\n").head?.getD "") " ") = some b → walkD b ((Txt.split z "\n").drop 1) [] [] = some (mw, kw) → Q (.ref t) H')
theorem ok_read_book2 (T : Txt K mg) (XT : TxtX K mg T) : FnOk P w K mg base (L2.CX P w) 5 T.f_read_book T.fd_read_book ["text"] (spReadX T) := by
  refine T.F_read_book.okX sc_read_book (fun vs H Q E h => ?_) (fun cdv A outer s H vs Q E hr h => ?_)
  · obtain ⟨z, rfl, _⟩ := h
    rfl
  · obtain ⟨z, rfl, hz, qe, qn⟩ := h
    refine ⟨_, (pss_cons (ps_set (i := 1) sc_read_book.nd rfl (Or.inl rfl) (pe_split (pv 0) pe_str))
  (pss_cons (ps_set (i := 2) sc_read_book.nd rfl (Or.inl rfl) (pe_call (ok_read_by T) (hr.mono (by decide)) (by rfl) T.g_read_by T.F_read_by.kp T.b_read_by .nil pass0 (pa_cons (pe_split (pe_ix ix_list (pv 1) pe_int (fun _ _ => rfl)) pe_str) pa_nil)))
  (pss_cons (ps_if (pt_cmpR op_isN (pv 2) pe_non (nomark _)) (pss_one (ps_raise rfl (takes_of rfl rfl rfl rfl) (pmk_oex XT.exB XT.inB XT.tyI (ok_GateError_init T) (hr.mono (by decide)) T.b_GateError_init .nil pass0 (by rfl) T.g_BadBook (pa_cons pe_int pa_nil)))) pss_nil)
  (pss_cons (ps_set (i := 3) sc_read_book.nd rfl (Or.inl rfl) pe_dnewK)
  (pss_cons (ps_set (i := 4) sc_read_book.nd rfl (Or.inl rfl) pe_dnewK)
  (pss_cons (ps_for (passes_of rfl) rfl (OGX.pi_enumS (by rfl) T.n_enumerate (pa_cons (pe_slice sl_list (pv 1) (po_some pe_int) po_none) pa_nil) (pk_cons pe_int pk_nil)) (pg_tup (by rfl) (pgs_cons (pg_name (i := 5) sc_read_book.nd rfl (Or.inl rfl)) (pgs_cons (pg_name (i := 6) sc_read_book.nd rfl (Or.inl rfl)) pgs_nil))) (pss_cons (ps_set (i := 7) sc_read_book.nd rfl (Or.inl rfl) (pe_split (pv 6) pe_str))
  (pss_one (ps_if (PW.pt (pw_and (pt_not (pt_truth (pv 4) (by intro _; rfl))) (pw_and1 (pt_val (pe_call (ok_is_mark T) (hr.mono (by decide)) (by rfl) T.g_is_mark T.F_is_mark.kp T.b_is_mark .nil pass0 (pa_cons (pv 7) (pa_cons (pv 2) (pa_cons (pv 3) pa_nil)))))))) (pss_one (ps_dput (hu_of hr) (pv 3) (pe_ix ix_list (pv 7) pe_int (fun _ _ => rfl)) (pe_callTy call_int_str (by rfl) T.n_int (by decide +kernel) (pa_cons (pe_ix ix_list (pv 7) pe_int (fun _ _ => rfl)) pa_nil)) rfl)) (pss_one (ps_if (PW.pt (pw_and (pt_truth (pv 3) (by intro _; rfl)) (pw_and1 (pt_val (pe_call (ok_is_kind T) (hr.mono (by decide)) (by rfl) T.g_is_kind T.F_is_kind.kp T.b_is_kind .nil pass0 (pa_cons (pv 7) (pa_cons (pv 2) (pa_cons (pv 4) (pa_cons (pe_callB call_lenD (by rfl) T.n_len PySem.boot_len (pa_cons (pv 3) pa_nil)) pa_nil))))))))) (pss_one (ps_dput (hu_of hr) (pv 4) (pe_ix ix_list (pv 7) pe_int (fun _ _ => rfl)) (pe_callTy call_tuple_of (by rfl) T.n_tuple (by decide +kernel) (pa_cons (pe_lc (own := [("word", 8)]) (g := gName 8) (by rfl) sc_read_book.nd (pi_list (pe_slice sl_list (pv 7) (po_some pe_int) po_none)) (blkOk_by (own := [("word", 8)]) (by rfl)) (fun _ _ _ _ _ => (pg_name (i := 8) sc_read_book.nd rfl (Or.inl rfl))) (fun _ _ _ _ _ => pts_nil) (fun _ _ _ _ _ => (pe_callTy call_int_str (by rfl) T.n_int (by decide +kernel) (pa_cons (pv 8) pa_nil)))) pa_nil)) rfl)) (pss_one (ps_raise rfl (takes_of rfl rfl rfl rfl) (pmk_oex XT.exB XT.inB XT.tyI (ok_GateError_init T) (hr.mono (by decide)) T.b_GateError_init .nil pass0 (by rfl) T.g_BadBook (pa_cons (pv 5) pa_nil))))))))))
  (pss_cons (ps_if (pt_not (pt_truth (pv 4) (by intro _; rfl))) (pss_one (ps_raise rfl (takes_of rfl rfl rfl rfl) (pmk_oex XT.exB XT.inB XT.tyI (ok_GateError_init T) (hr.mono (by decide)) T.b_GateError_init .nil pass0 (by rfl) T.g_BadBook (pa_cons (pe_op op_add (pe_callB call_len_seq (by rfl) T.n_len PySem.boot_len (pa_cons (pv 1) pa_nil)) pe_int) pa_nil)))) pss_nil)
  (pss_one (ps_ret (pe_tup (pa_cons (pv 2) (pa_cons (pv 3) (pa_cons (pv 4) pa_nil))))))))))))), ?_⟩
    obtain ⟨n1, l1, p1⟩ := split_facts z "\n" rfl (by decide +kernel)
    have em : wrongM z = match byM (Txt.split ((Txt.split z "\n").head?.getD "") " ") with
      | none => some 1
      | some b => match walkM b ((Txt.split z "\n").drop 1) 2 [] [] with
        | .inl i => some i
        | .inr mk => if mk.2 = [] then some ((Txt.split z "\n").length + 1) else none := rfl
    rw [em] at qe qn
    obtain ⟨ls, hls⟩ : ∃ ls, Txt.split z "\n" = ls := ⟨_, rfl⟩
    rw [hls] at qe qn n1 l1 p1
    refine ⟨.str z, rfl, ⟨_, rfl⟩, z, _, rfl, rfl, rfl, le_line (by omega), fun pl hpl => ?_⟩
    rw [hls]
    have s1 := same_new (o := .lst (ls.map V.str)) hpl
    have hpl1 : (upd H pl (.lst (ls.map V.str))) pl = some (.lst (ls.map V.str)) := upd_same
    generalize upd H pl (.lst (ls.map V.str)) = H1 at *
    obtain ⟨l0, lr, rfl⟩ : ∃ l0 lr, ls = l0 :: lr := by
      cases ls with
      | nil => exact absurd rfl n1
      | cons a b => exact ⟨a, b, rfl⟩
    have hl0 : l0.length ≤ 900000 := Nat.le_trans (p1 l0 List.mem_cons_self) hz
    refine ⟨.ref pl, rfl, pl, _, ((0 : Nat) : Int), _, rfl, rfl, SqL.of hpl1, atI_nat rfl, ⟨_, rfl⟩, l0, _, rfl, rfl, rfl, le_line (by omega), fun wl hwl => ?_⟩
    obtain ⟨m1, m2, m3⟩ := split_facts l0 " " rfl (by decide +kernel)
    have s2 := same_new (o := .lst ((Txt.split l0 " ").map V.str)) hwl
    refine ⟨wl, Txt.split l0 " ", rfl, upd_same, m1, fun y hy => Nat.le_trans (m3 y hy) (by omega), fun H2 s3 => ?_⟩
    have sA := (s1.trans s2).trans s3
    have hpl2 := s3 _ _ (s2 _ _ hpl1)
    have qe : ∀ n : Nat, (match byM (Txt.split l0 " ") with
      | none => some 1
      | some b => match walkM b lr 2 [] [] with
        | .inl i => some i
        | .inr mk => if mk.2 = [] then some (lr.length + 1 + 1) else none) = some n → ∀ (d : Addr) (H' : Hp), Same H H' → H' d = some (.xd [("value", .int (n : Int))]) → E (.ref T.c_BadBook) (some d) H' := qe
    have qn : (match byM (Txt.split l0 " ") with
      | none => some 1
      | some b => match walkM b lr 2 [] [] with
        | .inl i => some i
        | .inr mk => if mk.2 = [] then some (lr.length + 1 + 1) else none) = none → ∀ (t a1 a2 : Addr) (b : Int) (mw : List (Str × Int)) (kw : List (Str × List Int)) (kv2 : List (Key × V)) (H' : Hp), Same H H' → H a1 = none → H a2 = none → H' t = some (.tup [.int b, .ref a1, .ref a2]) → H' a1 = some (.dK (kvM mw)) → H' a2 = some (.dK kv2) → KvK H' kv2 kw →
        byM (Txt.split l0 " ") = some b → walkD b lr [] [] = some (mw, kw) → Q (.ref t) H' := qn
    cases hb : byM (Txt.split l0 " ") with
    | none =>
      rw [hb] at qe
      refine ⟨_, rfl, rfl, _, rfl, ?_⟩
      refine bad_made XT fun d H' s' hd => ?_
      exact qe 1 rfl d H' (sA.trans s') hd
    | some b =>
      rw [hb] at qe qn
      obtain ⟨b0, b97⟩ := byM_ok hb
      refine ⟨.int b, rfl, rfl, _, rfl, ?_⟩
      refine iteF ?_
      dsimp only [tNext]
      refine fun a1 ha1 => ?_
      refine fun a2 ha2 => ?_
      have n12 : a1 ≠ a2 := fun e => by
        rw [← e, upd_same] at ha2
        cases ha2
      have t1 := same_new (o := .dK []) ha1
      have t2 := same_new (o := .dK []) ha2
      have h1 : (upd (upd H2 a1 (.dK [])) a2 (.dK [])) a1 = some (.dK []) := t2 _ _ upd_same
      have h2 : (upd (upd H2 a1 (.dK [])) a2 (.dK [])) a2 = some (.dK []) := upd_same
      have nH1 : ∀ x o, H x = some o → x ≠ a1 := fun x o e => ne_of_none (sA _ _ e) ha1
      have nH2 : ∀ x o, H x = some o → x ≠ a2 := fun x o e => ne_of_none (t1 _ _ (sA _ _ e)) ha2
      have hpl3 := t2 _ _ (t1 _ _ hpl2)
      have sB := (sA.trans t1).trans t2
      have npl1 : pl ≠ a1 := ne_of_none hpl2 ha1
      have npl2 : pl ≠ a2 := ne_of_none (t1 _ _ hpl2) ha2
      generalize upd (upd H2 a1 (.dK [])) a2 (.dK []) = H3 at *
      have ec : cutV ((l0 :: lr).map V.str) (some 1) none = lr.map V.str := by
        rw [show (1 : Int) = ((1 : Nat) : Int) from rfl, cut_from]
        rfl
      refine ⟨.ref pl, rfl, _, rfl, pl, _, rfl, SqL.of hpl3, fun sl hsl => ?_⟩
      have s4 := same_new (o := .lst (cutV ((l0 :: lr).map V.str) (some 1) none)) hsl
      refine ⟨sl, _, 2, rfl, rfl, by decide, SqL.of upd_same, ?_⟩
      rw [ec] at s4 ⊢
      have hsl4 : (upd H3 sl (.lst (lr.map V.str))) sl = some (.lst (lr.map V.str)) := upd_same
      have nsl1 : sl ≠ a1 := ne_of_none' h1 hsl
      have nsl2 : sl ≠ a2 := ne_of_none' h2 hsl
      have h1 := s4 _ _ h1
      have h2 := s4 _ _ h2
      have hpl4 := s4 _ _ hpl3
      have sC := sB.trans s4
      generalize upd H3 sl (.lst (lr.map V.str)) = H4 at *
      have kS : ∀ H9, K2 a1 a2 H4 H9 → Same H H9 := fun H9 k9 a o ho => k9 a o (nH1 a o ho) (nH2 a o ho) (sC _ _ ho)
      refine OGX.for_enumS (K := K) (a := sl) (xs := lr.map V.str) (m0 := 2) (fun i σ H' => ∃ (v5 v6 v7 : Option V) (mw : List (Str × Int)) (kw : List (Str × List Int)) (kv2 : List (Key × V)), σ = [some (.str z), some (.ref pl), some (.int b), some (.ref a1), some (.ref a2), v5, v6, v7, none] ∧ K2 a1 a2 H4 H' ∧
          H' a1 = some (.dK (kvM mw)) ∧ H' a2 = some (.dK kv2) ∧ KvK H' kv2 kw ∧ MkOk (mw.map (·.1)) (kw.map (·.1)) ∧ i ≤ lr.length ∧ walkM b lr 2 [] [] = walkM b (lr.drop i) (i + 2) (mw.map (·.1)) (kw.map (·.1)) ∧ walkD b lr [] [] = walkD b (lr.drop i) mw kw)
        ⟨none, none, none, [], [], [], rfl, fun _ _ _ _ h => h, h1, h2, .nil, MkOk.nil, Nat.zero_le _, rfl, rfl⟩ (fun i σ H' ⟨_, _, _, _, _, _, _, k2, _⟩ => SqL.of (k2 _ _ nsl1 nsl2 hsl4)) ?_ ?_
      · rintro i x T0 σ H5 hx ⟨v5, v6, v7, mw, kw, kv2, rfl, k2, g1, g2, eK, mk, hi, hw, hwd⟩ hT0
        have e1 := kvM_keys mw
        have e2 := KvK.keys eK
        have q1 : H5 a1 = some (.dK (kvM mw)) := g1
        have q2 : H5 a2 = some (.dK kv2) := g2
        obtain ⟨ms, hms0⟩ : ∃ ms, ms = mw.map (·.1) := ⟨_, rfl⟩
        obtain ⟨ks, hks0⟩ : ∃ ks, ks = kw.map (·.1) := ⟨_, rfl⟩
        obtain ⟨kv1, hkv1⟩ : ∃ kv1, kv1 = kvM mw := ⟨_, rfl⟩
        rw [← hms0, ← hks0] at mk hw
        rw [← hkv1] at g1 e1
        rw [← hms0] at e1
        rw [← hks0] at e2
        obtain ⟨l, hl, rfl⟩ := str_at hx
        have hil : i < lr.length := (List.getElem?_eq_some_iff.mp hl).1
        have ll : l.length ≤ 900000 := Nat.le_trans (p1 l (List.mem_cons_of_mem _ (List.mem_of_getElem? hl))) hz
        have u1 := same_new (o := .tup [.int ((2 + i : Nat) : Int), .str l]) hT0
        refine ⟨T0, _, rfl, SqT.of upd_same, rfl, _, _, rfl, _, _, rfl, rfl, ?_⟩
        refine ⟨.str l, rfl, ⟨_, rfl⟩, l, _, rfl, rfl, rfl, le_line (by omega), fun aw haw => ?_⟩
        obtain ⟨c1, c2, c3⟩ := split_facts l " " rfl (by decide +kernel)
        have u2 := same_new (o := .lst ((Txt.split l " ").map V.str)) haw
        have hW : (upd (upd H5 T0 (.tup [.int ((2 + i : Nat) : Int), .str l])) aw (.lst ((Txt.split l " ").map V.str))) aw = some (.lst ((Txt.split l " ").map V.str)) := upd_same
        have k3 := (u1.trans u2)
        generalize upd (upd H5 T0 (.tup [.int ((2 + i : Nat) : Int), .str l])) aw (.lst ((Txt.split l " ").map V.str)) = H6 at *
        have g1 := k3 _ _ g1
        have g2 := k3 _ _ g2
        have k6 : K2 a1 a2 H4 H6 := fun x o n1 n2 ho => k3 _ _ (k2 x o n1 n2 ho)
        have wdrop : lr.drop i = l :: lr.drop (i + 1) := by
          rw [List.drop_eq_getElem_cons hil]
          have e := (List.getElem?_eq_some_iff.mp hl).2
          rw [e]
        rw [wdrop] at hw hwd
        rw [walkD_cons] at hwd
        have hw : walkM b lr 2 [] [] = match stepM b ms ks (Txt.split l " ") with
          | none => Sum.inl (i + 2)
          | some mk => walkM b (lr.drop (i + 1)) (i + 2 + 1) mk.1 mk.2 := hw
        generalize Txt.split l " " = words at *
        have wz : ∀ y ∈ words, y.length ≤ 10000000 := fun y hy => Nat.le_trans (c3 y hy) (by omega)
        dsimp only [gName]
        have lk1 : kv1.length = ms.length := by
          have := congrArg List.length e1
          rwa [List.length_map, List.length_map] at this
        have lk2 : kv2.length = ks.length := by
          have := congrArg List.length e2
          rwa [List.length_map, List.length_map] at this
        refine ifs_else (fun H7 => Same H6 H7 ∧ ¬ (ks = [] ∧ MarkP b ms words)) ?_ (fun fin => ?_)
        · rintro H7 ⟨s7, nm⟩
          have g1 := s7 _ _ g1
          have g2 := s7 _ _ g2
          have hW := s7 _ _ hW
          have k7 : K2 a1 a2 H4 H7 := fun x o n1 n2 ho => s7 _ _ (k6 x o n1 n2 ho)
          refine ifs_else (fun H8 => Same H7 H8 ∧ ¬ (ms ≠ [] ∧ KindP b ks ms.length words)) ?_ (fun fin2 => ?_)
          · rintro H8 ⟨s8, nk⟩
            have k8 : K2 a1 a2 H4 H8 := fun x o n1 n2 ho => s8 _ _ (k7 x o n1 n2 ho)
            have en := step_none nm nk
            rw [en] at hw
            refine ⟨.int ((2 + i : Nat) : Int), rfl, ?_⟩
            refine bad_made XT fun d H' s' hd => ?_
            refine qe (i + 2) ?_ d H' ((kS _ k8).trans s') ?_
            · show (match walkM b lr 2 [] [] with
                | .inl i => some i
                | .inr mk => if mk.2 = [] then some (lr.length + 1 + 1) else none) = _
              rw [hw]
            · rw [show i + 2 = 2 + i by omega]
              exact hd
          · refine ⟨.ref a1, rfl, _, .inr (.inr ⟨kv1, g1, rfl⟩), ?_⟩
            by_cases hms : ms = []
            case pos =>
              have e0 : kv1 = [] := List.length_eq_zero_iff.mp (by rw [lk1, hms]; rfl)
              rw [e0]
              exact fin2 _ ⟨Same.refl _, fun z => z.1 hms⟩
            case neg =>
              have e0 : kv1.isEmpty = false := by
                cases kv1 with
                | nil => exact absurd (List.length_eq_zero_iff.mp (by rw [← lk1]; rfl)) hms
                | cons a b => rfl
              rw [e0]
              refine ⟨.ref aw, rfl, .int b, rfl, .ref a2, rfl, .ref a1, rfl, a1, kv1, rfl, g1, aw, a2, b, ms.length, kv2, ks, words, (by rw [lk1]; rfl), hW, g2, e2, c1, by omega, wz, b0, b97, mk.m4, fun r hrr H8 s8 => ?_⟩
              refine ⟨_, rfl, ?_⟩
              cases r with
              | false => exact fin2 _ ⟨s8, fun z => by
                  have := hrr.mpr z.2
                  cases this⟩
              | true =>
                obtain ⟨w1, rest, rfl, hwk, hz', hlr, est⟩ := step_kind mk hms (hrr.mp rfl)
                rw [est] at hw
                have hW := s8 _ _ hW
                have k8 : K2 a1 a2 H4 H8 := fun x o n1 n2 ho => s8 _ _ (k7 x o n1 n2 ho)
                have ec2 : cutV ((("kind" : Str) :: w1 :: rest).map V.str) (some 2) none = rest.map V.str := by
                  rw [show (2 : Int) = ((2 : Nat) : Int) from rfl, cut_from]
                  rfl
                refine ⟨.ref aw, rfl, _, rfl, aw, _, rfl, SqL.of hW, fun sl2 hsl2 => ?_⟩
                have v1 := same_new (o := .lst (cutV ((("kind" : Str) :: w1 :: rest).map V.str) (some 2) none)) hsl2
                refine ⟨sl2, rfl, ⟨_, SqL.of upd_same⟩, fun D hD => ?_⟩
                refine lc_same (K := K) (xs := rest.map V.str) fIntS (by rw [List.length_map, hlr]; exact Nat.le_trans (Nat.mul_le_mul mk.m4 mk.m4) (by decide)) (SqL.of (by rw [upd_same, ec2])) hD (fun x H' Q' hx s' hq => ?_) (fun _ => rfl) (fun H9 s9 h9 => ?_)
                · obtain ⟨y, hy, rfl⟩ := List.mem_map.mp hx
                  have hy2 := List.all_eq_true.mp hz' y hy
                  have nq := numQ_iff.mp (Bool.and_eq_true_iff.mp hy2).1
                  exact ⟨.str y, rfl, y, numV (tl y), rfl, intText_num nq (Nat.le_trans nq.len (by decide)), Nat.le_trans nq.len (by decide), hq H' (Same.refl _)⟩
                refine ⟨D, _, rfl, .inl ⟨SqL.of h9, fun t ht => ?_⟩⟩
                have v2 := same_new (o := .tup ((rest.map V.str).map fIntS)) ht
                have sF := ((s8.trans v1).trans s9).trans v2
                have sG := (v1.trans s9).trans v2
                refine ⟨.ref a2, rfl, .ref aw, rfl, aw, _, ((1 : Nat) : Int), .str w1, rfl, rfl, SqL.of (sG _ _ hW), atI_nat rfl, a2, _, rfl, .inl ⟨kv2, .inr w1, sF _ _ g2, rfl, Nat.lt_of_le_of_lt (show kv2.length ≤ 3 by rw [lk2]; exact mk.k3) (by decide), rfl⟩, ?_⟩
                have hkn : valV kv2 (.inr w1) = none := by
                  have := has_key e2 w1
                  rw [decide_eq_false hwk] at this
                  exact Option.isNone_iff_eq_none.mp (by rw [← Option.not_isSome, this]; rfl)
                rw [hms0, hks0] at est
                have esd := stepD_kind est
                rw [esd] at hwd
                have mk2 := mk.step (by rw [hms0, hks0]; exact est)
                have ew : (kw ++ [(w1, rest.map fun z => numV (tl z))]).map (·.1) = ks ++ [w1] := by
                  rw [List.map_append, ← hks0]
                  rfl
                have et : (rest.map V.str).map fIntS = (rest.map fun z => numV (tl z)).map V.int := by
                  rw [List.map_map, List.map_map]
                  rfl
                have ht2 : (upd H9 t (.tup ((rest.map V.str).map fIntS))) t = some (.tup ((rest.map fun z => numV (tl z)).map V.int)) := by rw [upd_same, et]
                have k59 : K2 a1 a2 H5 (upd H9 t (.tup ((rest.map V.str).map fIntS))) := fun x o n1 n2 ho => sF _ _ (s7 _ _ (k3 _ _ ho))
                have eK9 := KvK.snoc (x := w1) ht2 (KvK.k2 k59 q1 q2 eK)
                have sfin : K2 a1 a2 (upd H9 t (.tup ((rest.map V.str).map fIntS))) (upd (upd H9 t (.tup ((rest.map V.str).map fIntS))) a2 (.dK (putK kv2 (.inr w1) (.ref t)))) := fun x o n1 n2 ho => by
                  rw [upd_ne n2]
                  exact ho
                refine ⟨_, _, _, mw, kw ++ [(w1, rest.map fun z => numV (tl z))], putK kv2 (.inr w1) (.ref t), rfl, fun x o n1 n2 ho => ?_, ?_, upd_same, ?_, ?_, by omega, ?_, hwd⟩
                · rw [upd_ne n2]
                  exact sG _ _ (k8 x o n1 n2 ho)
                · rw [upd_ne n12, ← hkv1]
                  exact sF _ _ g1
                · rw [putK_new _ hkn]
                  rw [putK_new _ hkn] at sfin
                  exact KvK.k2 sfin (sF _ _ g1) (sF _ _ g2) eK9
                · rw [ew, ← hms0]
                  rw [← hms0, ← hks0] at est
                  exact mk.step est
                · rw [ew, ← hms0]
                  exact hw
        · refine ⟨.ref a2, rfl, _, .inr (.inr ⟨kv2, g2, rfl⟩), ?_⟩
          by_cases hks : ks = []
          case neg =>
            have e0 : kv2.isEmpty = false := by
              cases kv2 with
              | nil => exact absurd (List.length_eq_zero_iff.mp (by rw [← lk2]; rfl)) hks
              | cons a b => rfl
            rw [e0]
            exact fin _ ⟨Same.refl _, fun z => hks z.1⟩
          case pos =>
            have e0 : kv2 = [] := List.length_eq_zero_iff.mp (by rw [lk2, hks]; rfl)
            rw [e0]
            refine ⟨.ref aw, rfl, .int b, rfl, .ref a1, rfl, aw, a1, b, kv1, ms, words, rfl, hW, g1, e1, c1, wz, b0, b97, fun r hrr H8 s8 => ?_⟩
            refine ⟨_, rfl, ?_⟩
            cases r with
            | false => exact fin _ ⟨s8, fun z => by
                have := hrr.mpr z.2
                cases this⟩
            | true =>
              obtain ⟨w1, w2, rfl, hwk, hq2, est⟩ := step_mark mk hks (hrr.mp rfl)
              rw [est] at hw
              have hW := s8 _ _ hW
              have k8 : K2 a1 a2 H4 H8 := fun x o n1 n2 ho => s8 _ _ (k6 x o n1 n2 ho)
              have nq := numQ_iff.mp hq2
              refine ⟨.ref aw, rfl, aw, _, ((2 : Nat) : Int), .str w2, rfl, rfl, SqL.of hW, atI_nat rfl, w2, numV (tl w2), rfl, intText_num nq (Nat.le_trans nq.len (by decide)), Nat.le_trans nq.len (by decide), ?_⟩
              refine ⟨.ref a1, rfl, .ref aw, rfl, aw, _, ((1 : Nat) : Int), .str w1, rfl, rfl, SqL.of hW, atI_nat rfl, a1, _, rfl, .inl ⟨kv1, .inr w1, s8 _ _ g1, rfl, Nat.lt_of_le_of_lt (show kv1.length ≤ 4 by rw [lk1]; exact mk.m4) (by decide), rfl⟩, ?_⟩
              have hkn : valV kv1 (.inr w1) = none := by
                have := has_key e1 w1
                rw [decide_eq_false hwk] at this
                exact Option.isNone_iff_eq_none.mp (by rw [← Option.not_isSome, this]; rfl)
              have est2 := est
              rw [hms0, hks0] at est2
              have esd := stepD_mark est2
              rw [esd] at hwd
              have ew : (mw ++ [(w1, numV (tl w2))]).map (·.1) = ms ++ [w1] := by
                rw [List.map_append, ← hms0]
                rfl
              have epk : putK kv1 (.inr w1) (.int (numV (tl w2))) = kvM (mw ++ [(w1, numV (tl w2))]) := by
                rw [putK_new _ hkn, hkv1]
                unfold kvM
                rw [List.map_append]
                rfl
              have kfin : K2 a1 a2 H5 (upd H8 a1 (.dK (putK kv1 (.inr w1) (.int (numV (tl w2)))))) := fun x o n1 n2 ho => by
                rw [upd_ne n1]
                exact s8 _ _ (k3 _ _ ho)
              refine ⟨_, _, _, mw ++ [(w1, numV (tl w2))], kw, kv2, rfl, fun x o n1 n2 ho => ?_, by rw [upd_same, epk], ?_, KvK.k2 kfin q1 q2 eK, ?_, by omega, ?_, hwd⟩
              · rw [upd_ne n1]
                exact k8 x o n1 n2 ho
              · rw [upd_ne n12.symm]
                exact s8 _ _ g2
              · rw [ew, ← hks0]
                exact mk.step est
              · rw [ew, ← hks0]
                exact hw
      · rintro σ H5 ⟨v5, v6, v7, mw, kw, kv2, rfl, k2, g1, g2, eK, mk, hi, hw, hwd⟩
        rw [List.length_map, List.drop_length] at hw hwd
        have hwd : walkD b lr [] [] = some (mw, kw) := hwd
        have e2 := KvK.keys eK
        obtain ⟨ms, hms0⟩ : ∃ ms, ms = mw.map (·.1) := ⟨_, rfl⟩
        obtain ⟨ks, hks0⟩ : ∃ ks, ks = kw.map (·.1) := ⟨_, rfl⟩
        rw [← hms0, ← hks0] at hw
        rw [← hks0] at e2
        have hw : walkM b lr 2 [] [] = .inr (ms, ks) := hw
        have sF := kS _ k2
        have lk2 : kv2.length = ks.length := by
          have := congrArg List.length e2
          rwa [List.length_map, List.length_map] at this
        refine ⟨.ref a2, rfl, _, .inr (.inr ⟨kv2, g2, rfl⟩), ?_⟩
        by_cases hks : ks = []
        case pos =>
          have e0 : kv2 = [] := List.length_eq_zero_iff.mp (by rw [lk2, hks]; rfl)
          rw [e0]
          refine ⟨.ref pl, rfl, pl, _, rfl, .inl (SqL.of (k2 _ _ npl1 npl2 hpl4)), _, _, rfl, rfl, ?_⟩
          refine bad_made XT fun d H' s' hd => ?_
          refine qe (lr.length + 1 + 1) ?_ d H' (sF.trans s') ?_
          · show (match walkM b lr 2 [] [] with
              | .inl i => some i
              | .inr mk => if mk.2 = [] then some (lr.length + 1 + 1) else none) = _
            rw [hw]
            exact if_pos hks
          · rw [List.length_map, List.length_cons] at hd
            exact hd
        case neg =>
          have e0 : kv2.isEmpty = false := by
            cases kv2 with
            | nil => exact absurd (List.length_eq_zero_iff.mp (by rw [← lk2]; rfl)) hks
            | cons a b => rfl
          rw [e0]
          refine ⟨.int b, rfl, .ref a1, rfl, .ref a2, rfl, Nat.le_trans (show 3 ≤ 1000 by decide) (by decide), fun t ht => ?_⟩
          have st := same_new (o := .tup [.int b, .ref a1, .ref a2]) ht
          refine qn ?_ t a1 a2 b mw kw kv2 _ (sF.trans st) (sA.free ha1) (sA.free (t1.free ha2)) upd_same (st _ _ g1) (st _ _ g2) (KvK.k2 (a1 := a1) (a2 := a2) (H := H5) (Same.k2 st) g1 g2 eK) rfl hwd
          show (match walkM b lr 2 [] [] with
            | .inl i => some i
            | .inr mk => if mk.2 = [] then some (lr.length + 1 + 1) else none) = _
          rw [hw]
          exact if_neg hks
end
end OG
set_option Elab.async false
set_option linter.all false
set_option maxRecDepth 100000
set_option maxHeartbeats 8000000
namespace OG
open PySem PySem.Spec PyProof.Rows L2
theorem putF_le (f : Str) (y : V) : ∀ fs : List (Str × V), (putF f y fs).length ≤ fs.length + 1
  | [] => Nat.le_refl _
  | p :: r => by
    unfold putF
    have ih := putF_le f y r
    split
    · exact Nat.le_succ _
    · rw [List.length_cons, List.length_cons]
      omega
theorem Same.put {H0 H : Hp} {x : Addr} {o : HO} (s : Same H0 H) (h : H0 x = none) : Same H0 (upd H x o) := fun b u e => by
  rw [upd_ne (ne_of_none e h)]
  exact s _ _ e
section
variable {P : Program} {w : World} {K : PySem.W.Frag} {mg : Str → Option Value} {base : Heap}
def spBookInit (T : Txt K mg) : Sp := fun vs H Q E => ∃ (x dx : Addr) (v : V) (H0 : Hp), vs = [.ref x, v] ∧ Same H0 H ∧ H0 x = none ∧ NearV H0 v ∧ H x = some (.ins T.c_Book dx []) ∧
  (∀ n : Nat, dueM v = some n → ∀ (d : Addr) (H' : Hp), Same H0 H' → H' d = some (.xd [("value", .int (n : Int))]) → E (.ref T.c_BadBook) (some d) H') ∧
  (dueM v = none → ∀ (fs : List (Str × V)) (H' : Hp), Same H0 H' → H' x = some (.ins T.c_Book dx fs) → fs.lookup ("text" : Str) = some v → Q .non H')
theorem ok_Book_init (T : Txt K mg) (XT : TxtX K mg T) : FnOk P w K mg base (L2.CX P w) 6 T.f_Book_init T.fd_Book_init ["self", "text"] (spBookInit T) := by
  refine T.F_Book_init.okX sc_Book_init (fun vs H Q E h => ?_) (fun cdv A outer s H vs Q E hr h => ?_)
  · obtain ⟨x, dx, v, H0, rfl, _⟩ := h
    rfl
  · obtain ⟨x, dx, v, H0, rfl, s0, hx0, hv0, hx, qe, qn⟩ := h
    refine ⟨_, (pss_cons (ps_if (pt_not (pt_val (pe_callB call_isi (by rfl) T.n_isinstance (by decide +kernel) (pa_cons (pv 1) (pa_cons (pe_bltn (v := .ty "str") (by rfl) T.n_str (by decide +kernel) rfl) pa_nil))))) (pss_one (ps_raise rfl (takes_of rfl rfl rfl rfl) (pmk_oex XT.exB XT.inB XT.tyI (ok_GateError_init T) (hr.mono (by decide)) T.b_GateError_init .nil pass0 (by rfl) T.g_BadBook (pa_cons pe_int pa_nil)))) pss_nil)
  (pss_cons (ps_asg (pe_call (ok_read_book T XT) (hr.mono (by decide)) (by rfl) T.g_read_book T.F_read_book.kp T.b_read_book .nil (passes_call (takes_of rfl rfl rfl rfl) (fun _ _ _ _ h => h)) (pa_cons (pv 1) pa_nil)) (pg_tup (by rfl) (pgs_cons (pg_name (i := 2) sc_Book_init.nd rfl (Or.inl rfl)) (pgs_cons (pg_name (i := 3) sc_Book_init.nd rfl (Or.inl rfl)) (pgs_cons (pg_name (i := 4) sc_Book_init.nd rfl (Or.inl rfl)) pgs_nil)))))
  (pss_cons (ps_fld (pv 0) (pv 1) rfl)
  (pss_cons (ps_fld (pv 0) (pv 2) rfl)
  (pss_cons (ps_fld (pv 0) (pe_callTy (call_tuple_dK rfl) (by rfl) T.n_tuple (by decide +kernel) (pa_cons (pv 3) pa_nil)) rfl)
  (pss_cons (ps_fld (pv 0) (pe_callTy (call_tuple_dK rfl) (by rfl) T.n_tuple (by decide +kernel) (pa_cons (pv 4) pa_nil)) rfl)
  (pss_cons (ps_fld (pv 0) (pv 3) rfl)
  (pss_one (ps_fld (pv 0) (pv 4) rfl))))))))), ?_⟩
    have hv := hv0.same s0
    obtain ⟨t, ty, kt⟩ := isi_ty (K := K) hv
    refine ⟨v, rfl, _, _, t, _, _, rfl, .ty _, ty, kt, ?_⟩
    refine ⟨_, rfl, ?_⟩
    by_cases hs : ∃ z, v = .str z
    case neg =>
      have e : dueM v = some 0 := by
        cases v <;> first | rfl | exact absurd ⟨_, rfl⟩ hs
      have e2 : isStr v = false := by
        cases v <;> first | rfl | exact absurd ⟨_, rfl⟩ hs
      rw [e2]
      refine bad_made XT fun d H' s' hd => ?_
      exact qe 0 e d H' (s0.trans s') hd
    case pos =>
      obtain ⟨z, rfl⟩ := hs
      have hz : z.length ≤ 900000 := hv
      refine iteF ?_
      dsimp only [tNext]
      refine ⟨.str z, rfl, z, rfl, hz, fun n hn d H' s' hd => qe n hn d H' (s0.trans s') hd, fun hn t0 a1 a2 b kv1 kv2 H1 s1 ht h1 h2 => ?_⟩
      refine ⟨t0, _, rfl, SqT.of ht, rfl, _, _, rfl, _, _, rfl, _, _, rfl, rfl, ?_⟩
      have hx1 := s1 _ _ hx
      have sA := s0.trans s1
      have nx : ∀ a o, H1 a = some (.dK o) → a ≠ x := fun a o e z => by
        rw [z, hx1] at e
        cases e
      have n1 := nx _ _ h1
      have n2 := nx _ _ h2
      obtain ⟨f1, hf1⟩ : ∃ f, f = putF "text" (V.str z) [] := ⟨_, rfl⟩
      have l1 : f1.length ≤ 1 := by rw [hf1]; exact putF_le _ _ []
      have t1 : f1.lookup ("text" : Str) = some (.str z) := by
        rw [hf1, lookup_putF]
        exact if_pos rfl
      refine ⟨.str z, rfl, .ref x, rfl, x, T.c_Book, dx, [], rfl, hx1, XT.cl, XT.na1, by show 0 < 1000; decide, ?_⟩
      rw [← hf1]
      obtain ⟨f2, hf2⟩ : ∃ f, f = putF "by" (V.int b) f1 := ⟨_, rfl⟩
      have l2 : f2.length ≤ 2 := by rw [hf2]; exact Nat.le_trans (putF_le _ _ _) (Nat.succ_le_succ l1)
      have t2 : f2.lookup ("text" : Str) = some (.str z) := by
        rw [hf2, lookup_putF, if_neg (by decide +kernel)]
        exact t1
      refine ⟨.int b, rfl, .ref x, rfl, x, T.c_Book, dx, _, rfl, upd_same, XT.cl, XT.na2, by omega, ?_⟩
      rw [← hf2]
      have k1 : ∀ {a : Addr} {o : List (Key × V)} {u1 u2 : HO}, H1 a = some (.dK o) → a ≠ x → upd (upd H1 x u1) x u2 a = some (.dK o) := fun {a o u1 u2} e n => by
        rw [upd_ne n, upd_ne n]
        exact e
      refine ⟨.ref a1, rfl, a1, kv1, rfl, k1 h1 n1, fun q1 hq1 => ?_⟩
      have hxq : upd (upd H1 x (.ins T.c_Book dx f1)) x (.ins T.c_Book dx f2) x = some (.ins T.c_Book dx f2) := upd_same
      have k2 := k1 (u1 := .ins T.c_Book dx f1) (u2 := .ins T.c_Book dx f2) h1 n1
      have k3 := k1 (u1 := .ins T.c_Book dx f1) (u2 := .ins T.c_Book dx f2) h2 n2
      have sB : Same H0 (upd (upd H1 x (.ins T.c_Book dx f1)) x (.ins T.c_Book dx f2)) := Same.put (Same.put sA hx0) hx0
      generalize upd (upd H1 x (.ins T.c_Book dx f1)) x (.ins T.c_Book dx f2) = H2 at *
      have sq := same_new (o := .tup (kv1.map fun kv => kV kv.1)) hq1
      have hxq := sq _ _ hxq
      have k2 := sq _ _ k2
      have k3 := sq _ _ k3
      have sB := sB.trans sq
      generalize upd H2 q1 (.tup (kv1.map fun kv => kV kv.1)) = H3 at *
      obtain ⟨f3, hf3⟩ : ∃ f, f = putF "marks" (V.ref q1) f2 := ⟨_, rfl⟩
      have l3 : f3.length ≤ 3 := by rw [hf3]; exact Nat.le_trans (putF_le _ _ _) (Nat.succ_le_succ l2)
      have t3 : f3.lookup ("text" : Str) = some (.str z) := by
        rw [hf3, lookup_putF, if_neg (by decide +kernel)]
        exact t2
      refine ⟨.ref x, rfl, x, T.c_Book, dx, _, rfl, hxq, XT.cl, XT.na3, by omega, ?_⟩
      rw [← hf3]
      refine ⟨.ref a2, rfl, a2, kv2, rfl, by rw [upd_ne n2]; exact k3, fun q2 hq2 => ?_⟩
      have sC := Same.put (o := .ins T.c_Book dx f3) sB hx0
      have hx3 : upd H3 x (.ins T.c_Book dx f3) x = some (.ins T.c_Book dx f3) := upd_same
      generalize upd H3 x (.ins T.c_Book dx f3) = H4 at *
      have sq2 := same_new (o := .tup (kv2.map fun kv => kV kv.1)) hq2
      have hx3 := sq2 _ _ hx3
      have sC := sC.trans sq2
      generalize upd H4 q2 (.tup (kv2.map fun kv => kV kv.1)) = H5 at *
      obtain ⟨f4, hf4⟩ : ∃ f, f = putF "kinds" (V.ref q2) f3 := ⟨_, rfl⟩
      have l4 : f4.length ≤ 4 := by rw [hf4]; exact Nat.le_trans (putF_le _ _ _) (Nat.succ_le_succ l3)
      have t4 : f4.lookup ("text" : Str) = some (.str z) := by
        rw [hf4, lookup_putF, if_neg (by decide +kernel)]
        exact t3
      refine ⟨.ref x, rfl, x, T.c_Book, dx, _, rfl, hx3, XT.cl, XT.na4, by omega, ?_⟩
      rw [← hf4]
      obtain ⟨f5, hf5⟩ : ∃ f, f = putF "_weight_by_mark" (V.ref a1) f4 := ⟨_, rfl⟩
      have l5 : f5.length ≤ 5 := by rw [hf5]; exact Nat.le_trans (putF_le _ _ _) (Nat.succ_le_succ l4)
      have t5 : f5.lookup ("text" : Str) = some (.str z) := by
        rw [hf5, lookup_putF, if_neg (by decide +kernel)]
        exact t4
      refine ⟨.ref a1, rfl, .ref x, rfl, x, T.c_Book, dx, _, rfl, upd_same, XT.cl, XT.na5, by omega, ?_⟩
      rw [← hf5]
      refine ⟨.ref a2, rfl, .ref x, rfl, x, T.c_Book, dx, _, rfl, upd_same, XT.cl, XT.na6, by omega, ?_⟩
      refine qn hn _ _ (Same.put (Same.put (Same.put sC hx0) hx0) hx0) upd_same ?_
      rw [lookup_putF, if_neg (by decide +kernel)]
      exact t5
end
end OG
set_option Elab.async false
set_option linter.all false
set_option maxRecDepth 100000
set_option maxHeartbeats 8000000
namespace OG
open PySem PySem.Spec PyProof.Rows L2
section
variable {P : Program} {w : World} {K : PySem.W.Frag} {mg : Str → Option Value} {base : Heap}
/-- a tuple, the very object, without a dict -/
def MkT (H : Hp) (t : Addr) (xs : List V) : Prop := ∃ o, H t = some (.frz o (.tup xs)) ∧ o.dict = none
theorem MkT.sq {K : PySem.W.Frag} {H : Hp} {t : Addr} {xs : List V} (h : MkT H t xs) : SqT K H t xs := by
  obtain ⟨o, e, _⟩ := h
  exact .inl (.inr ⟨o, e⟩)
/-- a book as it stands -/
def ObjAt (T : Txt K mg) (H : Hp) (x : Addr) (z : Str) (b : Int) (mw : List (Str × Int)) (kw : List (Str × List Int)) : Prop := ∃ (dx t1 t2 a1 a2 : Addr) (fs : List (Str × V)) (kv2 : List (Key × V)), H x = some (.ins T.c_Book dx fs) ∧ fs.length ≤ 10 ∧
  fs.lookup ("text" : Str) = some (.str z) ∧ fs.lookup ("by" : Str) = some (.int b) ∧ fs.lookup ("marks" : Str) = some (.ref t1) ∧ MkT H t1 ((mw.map (·.1)).map V.str) ∧ fs.lookup ("kinds" : Str) = some (.ref t2) ∧ MkT H t2 ((kw.map (·.1)).map V.str) ∧
  fs.lookup ("_weight_by_mark" : Str) = some (.ref a1) ∧ H a1 = some (.dK (kvM mw)) ∧ fs.lookup ("_worths_by_kind" : Str) = some (.ref a2) ∧ H a2 = some (.dK kv2) ∧ KvK H kv2 kw ∧ fs.lookup ("weight" : Str) = none ∧ fs.lookup ("worth" : Str) = none
theorem keyV (l : List Str) {α : Type} (kv : List (Key × α)) (h : kv.map (·.1) = l.map Sum.inr) : (kv.map fun p => kV p.1) = l.map V.str := by
  have e : (kv.map fun p => kV p.1) = (kv.map (·.1)).map kV := by
    rw [List.map_map]
    rfl
  rw [e, h, List.map_map]
  rfl
def spBookInitX (T : Txt K mg) : Sp := fun vs H Q E => ∃ (x dx : Addr) (v : V) (H0 : Hp), vs = [.ref x, v] ∧ Same H0 H ∧ H0 x = none ∧ NearV H0 v ∧ H x = some (.ins T.c_Book dx []) ∧
  (∀ n : Nat, dueM v = some n → ∀ (d : Addr) (H' : Hp), Same H0 H' → H' d = some (.xd [("value", .int (n : Int))]) → E (.ref T.c_BadBook) (some d) H') ∧
  (∀ z, v = .str z → wrongM z = none → ∀ (b : Int) (mw : List (Str × Int)) (kw : List (Str × List Int)) (H' : Hp), Same H0 H' → ObjAt T H' x z b mw kw → byM (Txt.split ((Txt.split z "\n").head?.getD "") " ") = some b → walkD b ((Txt.split z "\n").drop 1) [] [] = some (mw, kw) → Q .non H')
theorem ok_Book_init2 (T : Txt K mg) (XT : TxtX K mg T) : FnOk P w K mg base (L2.CX P w) 6 T.f_Book_init T.fd_Book_init ["self", "text"] (spBookInitX T) := by
  refine T.F_Book_init.okX sc_Book_init (fun vs H Q E h => ?_) (fun cdv A outer s H vs Q E hr h => ?_)
  · obtain ⟨x, dx, v, H0, rfl, _⟩ := h
    rfl
  · obtain ⟨x, dx, v, H0, rfl, s0, hx0, hv0, hx, qe, qn⟩ := h
    refine ⟨_, (pss_cons (ps_if (pt_not (pt_val (pe_callB call_isi (by rfl) T.n_isinstance (by decide +kernel) (pa_cons (pv 1) (pa_cons (pe_bltn (v := .ty "str") (by rfl) T.n_str (by decide +kernel) rfl) pa_nil))))) (pss_one (ps_raise rfl (takes_of rfl rfl rfl rfl) (pmk_oex XT.exB XT.inB XT.tyI (ok_GateError_init T) (hr.mono (by decide)) T.b_GateError_init .nil pass0 (by rfl) T.g_BadBook (pa_cons pe_int pa_nil)))) pss_nil)
  (pss_cons (ps_asg (pe_call (ok_read_book2 T XT) (hr.mono (by decide)) (by rfl) T.g_read_book T.F_read_book.kp T.b_read_book .nil (passes_call (takes_of rfl rfl rfl rfl) (fun _ _ _ _ h => h)) (pa_cons (pv 1) pa_nil)) (pg_tup (by rfl) (pgs_cons (pg_name (i := 2) sc_Book_init.nd rfl (Or.inl rfl)) (pgs_cons (pg_name (i := 3) sc_Book_init.nd rfl (Or.inl rfl)) (pgs_cons (pg_name (i := 4) sc_Book_init.nd rfl (Or.inl rfl)) pgs_nil)))))
  (pss_cons (ps_fld (pv 0) (pv 1) rfl)
  (pss_cons (ps_fld (pv 0) (pv 2) rfl)
  (pss_cons (ps_fld (pv 0) (pe_callTy (call_tuple_dKF rfl) (by rfl) T.n_tuple (by decide +kernel) (pa_cons (pv 3) pa_nil)) rfl)
  (pss_cons (ps_fld (pv 0) (pe_callTy (call_tuple_dKF rfl) (by rfl) T.n_tuple (by decide +kernel) (pa_cons (pv 4) pa_nil)) rfl)
  (pss_cons (ps_fld (pv 0) (pv 3) rfl)
  (pss_one (ps_fld (pv 0) (pv 4) rfl))))))))), ?_⟩
    have hv := hv0.same s0
    obtain ⟨t, ty, kt⟩ := isi_ty (K := K) hv
    refine ⟨v, rfl, _, _, t, _, _, rfl, .ty _, ty, kt, ?_⟩
    refine ⟨_, rfl, ?_⟩
    by_cases hs : ∃ z, v = .str z
    case neg =>
      have e : dueM v = some 0 := by
        cases v <;> first | rfl | exact absurd ⟨_, rfl⟩ hs
      have e2 : isStr v = false := by
        cases v <;> first | rfl | exact absurd ⟨_, rfl⟩ hs
      rw [e2]
      refine bad_made XT fun d H' s' hd => ?_
      exact qe 0 e d H' (s0.trans s') hd
    case pos =>
      obtain ⟨z, rfl⟩ := hs
      have hz : z.length ≤ 900000 := hv
      refine iteF ?_
      dsimp only [tNext]
      refine ⟨.str z, rfl, z, rfl, hz, fun n hn d H' s' hd => qe n hn d H' (s0.trans s') hd, fun hn t0 a1 a2 b mw kw kv2 H1 s1 na1 na2 ht h1 h2 eK hby hwd => ?_⟩
      refine ⟨t0, _, rfl, SqT.of ht, rfl, _, _, rfl, _, _, rfl, _, _, rfl, rfl, ?_⟩
      have hx1 := s1 _ _ hx
      have sA := s0.trans s1
      have nx : ∀ a o, H1 a = some (.dK o) → a ≠ x := fun a o e z => by
        rw [z, hx1] at e
        cases e
      have n1 := nx _ _ h1
      have n2 := nx _ _ h2
      obtain ⟨f1, hf1⟩ : ∃ f, f = putF "text" (V.str z) [] := ⟨_, rfl⟩
      have l1 : f1.length ≤ 1 := by rw [hf1]; exact putF_le _ _ []
      have t1 : f1.lookup ("text" : Str) = some (.str z) := by
        rw [hf1, lookup_putF]
        exact if_pos rfl
      refine ⟨.str z, rfl, .ref x, rfl, x, T.c_Book, dx, [], rfl, hx1, XT.cl, XT.na1, by show 0 < 1000; decide, ?_⟩
      rw [← hf1]
      obtain ⟨f2, hf2⟩ : ∃ f, f = putF "by" (V.int b) f1 := ⟨_, rfl⟩
      have l2 : f2.length ≤ 2 := by rw [hf2]; exact Nat.le_trans (putF_le _ _ _) (Nat.succ_le_succ l1)
      have t2 : f2.lookup ("text" : Str) = some (.str z) := by
        rw [hf2, lookup_putF, if_neg (by decide +kernel)]
        exact t1
      refine ⟨.int b, rfl, .ref x, rfl, x, T.c_Book, dx, _, rfl, upd_same, XT.cl, XT.na2, by omega, ?_⟩
      rw [← hf2]
      have k1 : ∀ {a : Addr} {o : List (Key × V)} {u1 u2 : HO}, H1 a = some (.dK o) → a ≠ x → upd (upd H1 x u1) x u2 a = some (.dK o) := fun {a o u1 u2} e n => by
        rw [upd_ne n, upd_ne n]
        exact e
      refine ⟨.ref a1, rfl, a1, kvM mw, rfl, k1 h1 n1, fun q1 ob1 hq1 hob1 => ?_⟩
      have hxq : upd (upd H1 x (.ins T.c_Book dx f1)) x (.ins T.c_Book dx f2) x = some (.ins T.c_Book dx f2) := upd_same
      have k2 := k1 (u1 := .ins T.c_Book dx f1) (u2 := .ins T.c_Book dx f2) h1 n1
      have k3 := k1 (u1 := .ins T.c_Book dx f1) (u2 := .ins T.c_Book dx f2) h2 n2
      have sB : Same H0 (upd (upd H1 x (.ins T.c_Book dx f1)) x (.ins T.c_Book dx f2)) := Same.put (Same.put sA hx0) hx0
      have kx2 : Kp x H1 (upd (upd H1 x (.ins T.c_Book dx f1)) x (.ins T.c_Book dx f2)) := fun b o n e => by
        rw [upd_ne n, upd_ne n]
        exact e
      generalize upd (upd H1 x (.ins T.c_Book dx f1)) x (.ins T.c_Book dx f2) = H2 at *
      have nq1 : q1 ≠ x := ne_of_none' hxq hq1
      have sq := same_new (o := .frz ob1 (.tup ((kvM mw).map fun kv => kV kv.1))) hq1
      have gq1 : (upd H2 q1 (.frz ob1 (.tup ((kvM mw).map fun kv => kV kv.1)))) q1 = some (.frz ob1 (.tup ((kvM mw).map fun kv => kV kv.1))) := upd_same
      have kx3 := kx2.trans (Same.kp sq)
      have hxq := sq _ _ hxq
      have k2 := sq _ _ k2
      have k3 := sq _ _ k3
      have sB := sB.trans sq
      generalize upd H2 q1 (.frz ob1 (.tup ((kvM mw).map fun kv => kV kv.1))) = H3 at *
      obtain ⟨f3, hf3⟩ : ∃ f, f = putF "marks" (V.ref q1) f2 := ⟨_, rfl⟩
      have l3 : f3.length ≤ 3 := by rw [hf3]; exact Nat.le_trans (putF_le _ _ _) (Nat.succ_le_succ l2)
      have t3 : f3.lookup ("text" : Str) = some (.str z) := by
        rw [hf3, lookup_putF, if_neg (by decide +kernel)]
        exact t2
      refine ⟨.ref x, rfl, x, T.c_Book, dx, _, rfl, hxq, XT.cl, XT.na3, by omega, ?_⟩
      rw [← hf3]
      refine ⟨.ref a2, rfl, a2, kv2, rfl, by rw [upd_ne n2]; exact k3, fun q2 ob2 hq2 hob2 => ?_⟩
      have sC := Same.put (o := .ins T.c_Book dx f3) sB hx0
      have hx3 : upd H3 x (.ins T.c_Book dx f3) x = some (.ins T.c_Book dx f3) := upd_same
      have kx4 := kx3.trans (kp_self (p := x) (H := H3) (o := .ins T.c_Book dx f3))
      have gq1 := kp_self (p := x) (H := H3) (o := .ins T.c_Book dx f3) q1 _ nq1 gq1
      generalize upd H3 x (.ins T.c_Book dx f3) = H4 at *
      have nq2 : q2 ≠ x := ne_of_none' hx3 hq2
      have gq2 : (upd H4 q2 (.frz ob2 (.tup (kv2.map fun kv => kV kv.1)))) q2 = some (.frz ob2 (.tup (kv2.map fun kv => kV kv.1))) := upd_same
      have sq2 := same_new (o := .frz ob2 (.tup (kv2.map fun kv => kV kv.1))) hq2
      have hx3 := sq2 _ _ hx3
      have sC := sC.trans sq2
      have kx5 := kx4.trans (Same.kp sq2)
      have gq1 := sq2 _ _ gq1
      generalize upd H4 q2 (.frz ob2 (.tup (kv2.map fun kv => kV kv.1))) = H5 at *
      obtain ⟨f4, hf4⟩ : ∃ f, f = putF "kinds" (V.ref q2) f3 := ⟨_, rfl⟩
      have l4 : f4.length ≤ 4 := by rw [hf4]; exact Nat.le_trans (putF_le _ _ _) (Nat.succ_le_succ l3)
      have t4 : f4.lookup ("text" : Str) = some (.str z) := by
        rw [hf4, lookup_putF, if_neg (by decide +kernel)]
        exact t3
      refine ⟨.ref x, rfl, x, T.c_Book, dx, _, rfl, hx3, XT.cl, XT.na4, by omega, ?_⟩
      rw [← hf4]
      obtain ⟨f5, hf5⟩ : ∃ f, f = putF "_weight_by_mark" (V.ref a1) f4 := ⟨_, rfl⟩
      have l5 : f5.length ≤ 5 := by rw [hf5]; exact Nat.le_trans (putF_le _ _ _) (Nat.succ_le_succ l4)
      have t5 : f5.lookup ("text" : Str) = some (.str z) := by
        rw [hf5, lookup_putF, if_neg (by decide +kernel)]
        exact t4
      refine ⟨.ref a1, rfl, .ref x, rfl, x, T.c_Book, dx, _, rfl, upd_same, XT.cl, XT.na5, by omega, ?_⟩
      rw [← hf5]
      refine ⟨.ref a2, rfl, .ref x, rfl, x, T.c_Book, dx, _, rfl, upd_same, XT.cl, XT.na6, by omega, ?_⟩
      have f6 : ∀ f : Str, (putF "_worths_by_kind" (V.ref a2) f5).lookup f = if f = "_worths_by_kind" then some (V.ref a2) else if f = "_weight_by_mark" then some (V.ref a1) else if f = "kinds" then some (V.ref q2) else if f = "marks" then some (V.ref q1) else if f = "by" then some (V.int b) else if f = "text" then some (V.str z) else ([] : List (Str × V)).lookup f := fun f => by
        rw [lookup_putF, hf5, lookup_putF, hf4, lookup_putF, hf3, lookup_putF, hf2, lookup_putF, hf1, lookup_putF]
      have e2 := keyV _ _ (KvK.keys eK)
      have e1 := keyV _ _ (kvM_keys mw)
      rw [e2] at gq2
      rw [e1] at gq1
      obtain ⟨F, hF⟩ : ∃ F, F = upd (upd (upd H5 x (.ins T.c_Book dx f4)) x (.ins T.c_Book dx f5)) x (.ins T.c_Book dx (putF "_worths_by_kind" (V.ref a2) f5)) := ⟨_, rfl⟩
      rw [← hF]
      have kF : Kp x H5 F := fun b o n e => by
        rw [hF, upd_ne n, upd_ne n, upd_ne n]
        exact e
      have sF : Same H0 F := by
        rw [hF]
        exact Same.put (Same.put (Same.put sC hx0) hx0) hx0
      have xF : F x = some (.ins T.c_Book dx (putF "_worths_by_kind" (V.ref a2) f5)) := by rw [hF, upd_same]
      have kAll := kx5.trans kF
      have n1 : ∀ {a : Addr} {o : HO}, H1 a = some o → (∀ f, o ≠ .ins T.c_Book dx f) → a ≠ x := fun {a o} e n z => by
        rw [z, hx1] at e
        exact n _ (Option.some.inj e).symm
      have fin := fun a o e => kAll a o e
      refine qn z rfl hn b mw kw F sF ⟨dx, q1, q2, a1, a2, _, kv2, xF, Nat.le_trans (putF_le _ _ _) (by omega), ?_, ?_, ?_, ⟨ob1, kF _ _ nq1 gq1, hob1⟩, ?_, ⟨ob2, kF _ _ nq2 gq2, hob2⟩, ?_, kAll _ _ (nx _ _ h1) h1, ?_, kAll _ _ (nx _ _ h2) h2, ?_⟩ hby hwd
      · rw [f6, if_neg (by decide +kernel), if_neg (by decide +kernel), if_neg (by decide +kernel), if_neg (by decide +kernel), if_neg (by decide +kernel), if_pos rfl]
      · rw [f6, if_neg (by decide +kernel), if_neg (by decide +kernel), if_neg (by decide +kernel), if_neg (by decide +kernel), if_pos rfl]
      · rw [f6, if_neg (by decide +kernel), if_neg (by decide +kernel), if_neg (by decide +kernel), if_pos rfl]
      · rw [f6, if_neg (by decide +kernel), if_neg (by decide +kernel), if_pos rfl]
      · rw [f6, if_neg (by decide +kernel), if_pos rfl]
      · rw [f6, if_pos rfl]
      · have key : ∀ {kv : List (Key × V)} {kw : List (Str × List Int)}, KvK H1 kv kw → KvK F kv kw := by
          intro kv kw h
          induction h with
          | nil => exact .nil
          | cons h _ ih =>
            obtain ⟨e, t, et, ht'⟩ := h
            exact .cons ⟨e, t, et, kAll _ _ (n1 ht' (fun f z => by cases z)) ht'⟩ ih
        refine ⟨key eK, ?_, ?_⟩
        · rw [f6, if_neg (by decide +kernel), if_neg (by decide +kernel), if_neg (by decide +kernel), if_neg (by decide +kernel), if_neg (by decide +kernel), if_neg (by decide +kernel)]
          rfl
        · rw [f6, if_neg (by decide +kernel), if_neg (by decide +kernel), if_neg (by decide +kernel), if_neg (by decide +kernel), if_neg (by decide +kernel), if_neg (by decide +kernel)]
          rfl
end
end OG
set_option Elab.async false
set_option linter.all false
set_option maxRecDepth 100000
set_option maxHeartbeats 8000000
namespace OG
open PySem PySem.Spec PyProof.Rows L2
section
variable {P : Program} {w : World} {K : PySem.W.Frag} {mg : Str → Option Value} {base : Heap}
def spLen (T : Txt K mg) : Sp := fun vs H Q _ => ∃ (x : Addr) (z : Str) (b : Int) (mw : List (Str × Int)) (kw : List (Str × List Int)), vs = [.ref x] ∧ ObjAt T H x z b mw kw ∧ Q (.int (mw.length : Int)) H
theorem ok_Book_len (T : Txt K mg) (XT : TxtX K mg T) : FnOk P w K mg base (L2.CX P w) 1 T.f_Book_len T.fd_Book_len ["self"] (spLen T) := by
  refine T.F_Book_len.okX sc_Book_len (fun vs H Q E h => ?_) (fun cdv A outer s H vs Q E hr h => ?_)
  · obtain ⟨x, z, b, mw, kw, rfl, _⟩ := h
    rfl
  · obtain ⟨x, z, b, mw, kw, rfl, hX, q⟩ := h
    refine ⟨_, (pss_one (ps_ret (pe_callB call_len_seq (by rfl) T.n_len PySem.boot_len (pa_cons (pe_fld (pv 0) rfl) pa_nil)))), ?_⟩
    obtain ⟨dx, t1, t2, a1, a2, fs, kv2, hx, _, f1, f2, f3, g1, f4, g2, f5, g3, f6, g4, g5, n1, n2⟩ := hX
    refine ⟨.ref x, rfl, x, T.c_Book, dx, fs, _, rfl, hx, XT.cl, XT.na3, f3, ?_⟩
    refine ⟨t1, _, rfl, .inr g1.sq, ?_⟩
    rw [List.length_map, List.length_map]
    exact q
def inM (v : V) (ms : List Str) : Bool := isStr v && inV v (ms.map V.str)
def spHas (T : Txt K mg) : Sp := fun vs H Q _ => ∃ (x : Addr) (v : V) (z : Str) (b : Int) (mw : List (Str × Int)) (kw : List (Str × List Int)), vs = [.ref x, v] ∧ NearV H v ∧ ObjAt T H x z b mw kw ∧ Q (.bl (inM v (mw.map (·.1)))) H
theorem ok_Book_contains (T : Txt K mg) (XT : TxtX K mg T) : FnOk P w K mg base (L2.CX P w) 1 T.f_Book_contains T.fd_Book_contains ["self", "value"] (spHas T) := by
  refine T.F_Book_contains.okX sc_Book_contains (fun vs H Q E h => ?_) (fun cdv A outer s H vs Q E hr h => ?_)
  · obtain ⟨x, v, z, b, mw, kw, rfl, _⟩ := h
    rfl
  · obtain ⟨x, v, z, b, mw, kw, rfl, hv, hX, q⟩ := h
    refine ⟨_, (pss_one (ps_ret (pe_and (pe_callB call_isi (by rfl) T.n_isinstance (by decide +kernel) (pa_cons (pv 1) (pa_cons (pe_bltn (v := .ty "str") (by rfl) T.n_str (by decide +kernel) rfl) pa_nil))) (pe_one (pe_cmpR op_in_seq (pv 1) (pe_fld (pv 0) rfl) rfl))))), ?_⟩
    obtain ⟨dx, t1, t2, a1, a2, fs, kv2, hx, _, f1, f2, f3, g1, f4, g2, f5, g3, f6, g4, g5, n1, n2⟩ := hX
    obtain ⟨t, ty, kt⟩ := isi_ty (K := K) hv
    refine ⟨v, rfl, _, _, t, _, _, rfl, .ty _, ty, kt, ?_⟩
    refine ⟨_, rfl, ?_⟩
    by_cases hs : ∃ s, v = .str s
    case neg =>
      have e2 : isStr v = false := by
        cases v <;> first | rfl | exact absurd ⟨_, rfl⟩ hs
      unfold inM at q
      rw [e2] at q ⊢
      exact q
    case pos =>
      obtain ⟨s, rfl⟩ := hs
      refine ⟨.str s, rfl, .ref x, rfl, x, T.c_Book, dx, fs, _, rfl, hx, XT.cl, XT.na3, f3, ?_⟩
      exact ⟨t1, _, rfl, .inr g1.sq, rfl, flat_strs _, q⟩
end
end OG
set_option Elab.async false
set_option linter.all false
set_option maxRecDepth 100000
set_option maxHeartbeats 4000000
namespace OGX
open PySem PySem.Spec PyProof.Rows L2
/-- what a value shows, by depth -/
def Leaf : V → PyData → Prop
  | .non, d => d = .none
  | .bl b, d => d = .bool b
  | .int i, d => d = .int i
  | .str z, d => d = .str z
  | _, _ => False
def Rds (K : PySem.W.Frag) (H : Hp) : Nat → V → PyData → Prop
  | 0, v, d => Leaf v d
  | n + 1, v, d => Leaf v d ∨ ∃ (a : Addr) (xs : List V) (ds : List PyData), v = .ref a ∧ Paired (Rds K H n) xs ds ∧ ((H a = some (.lst xs) ∧ d = .list ds) ∨ (SqT K H a xs ∧ d = .tuple ds))
section
variable {X : Cx} {pins : List (Addr × Obj)} {σ : L2.St} {H : Hp} {s : Shared}
theorem leaf_reads {h : Heap} : ∀ {v : V} {d : PyData} {u : Value}, Leaf v d → RelV v u → ∃ as, Reads h u d as
  | .non, _, _, e, r => by
    cases e
    cases (show _ = Value.none from r)
    exact ⟨_, .none⟩
  | .bl b, _, _, e, r => by
    cases e
    cases (show _ = Value.bool b from r)
    exact ⟨_, .bool b⟩
  | .int i, _, _, e, r => by
    cases e
    obtain ⟨t, q⟩ := (show ∃ t, _ = Value.int i t from r)
    cases q
    exact ⟨_, .int i t⟩
  | .str z, _, _, e, r => by
    cases e
    obtain ⟨t, q⟩ := (show ∃ t, _ = Value.str z t from r)
    cases q
    exact ⟨_, .str z t⟩
theorem all_reads {h : Heap} {R : V → PyData → Prop} (one : ∀ v d u, R v d → RelV v u → ∃ as, Reads h u d as) : ∀ {xs : List V} {ds : List PyData} {us : List Value}, Paired R xs ds → Vals xs us → ∃ as, ReadsAll h us ds as
  | _, _, _, .nil, .nil => ⟨_, .nil⟩
  | _, _, _, .cons p q, .cons r t => by
    obtain ⟨a1, h1⟩ := one _ _ _ p r
    obtain ⟨a2, h2⟩ := all_reads one q t
    exact ⟨_, .cons h1 h2⟩
theorem reads_of (I : Inv X pins σ H s) : ∀ (n : Nat) (v : V) (d : PyData) (u : Value), Rds X.K H n v d → RelV v u → ∃ as, Reads s.heap u d as
  | 0, _, _, _, e, r => leaf_reads e r
  | n + 1, v, d, u, e, r => by
    rcases e with e | ⟨a, xs, ds, rfl, p, ⟨ha, rfl⟩ | ⟨ha, rfl⟩⟩
    · exact leaf_reads e r
    · cases (show u = Value.ref a from r)
      obtain ⟨_, its, k, rv, e⟩ := (show ObjOk X.prog X.w H s.heap a (.lst xs) from I.hok a _ ha)
      obtain ⟨as, ra⟩ := all_reads (reads_of I n) p rv
      exact ⟨_, .list e rfl rfl ra⟩
    · cases (show u = Value.ref a from r)
      obtain ⟨its, rv, ⟨o, h1, h2, k, h3⟩, _⟩ := I.tuple ha
      obtain ⟨as, ra⟩ := all_reads (reads_of I n) p rv
      exact ⟨_, .tuple h1 h2 h3 ra⟩
/-- repr of what reads as data -/
def rRepr (K : PySem.W.Frag) : List V → Hp → VK → Prop := fun xs H Q => ∃ (v : V) (n : Nat) (d : PyData), xs = [v] ∧ Rds K H n v d ∧ d.showable = true ∧ d.hasDict = false ∧ d.depth ≤ 60 ∧ d.shown.length ≤ sizeLine ∧ Q (.str d.shown) H
theorem repr_go {X : Cx} {pins : List (Addr × Obj)} {σ : L2.St} {H : Hp} {s : Shared} {Q : VK} {u : Value} {d : PyData} {as : List Addr} (hg : X.A.guards = some []) (hu : X.A.units + 64 < cLine) (I : Inv X pins σ H s) (R : Reads s.heap u d as)
    (hs : d.showable = true) (hd : d.hasDict = false) (hp : d.depth ≤ 60) (hz : d.shown.length ≤ sizeLine) (q : Q (.str d.shown) H) : wpAny (model X.prog X.w) X.A (call (.builtin "repr") [u]) (EP X pins σ Q) X.xe s := by
  have back : ∀ t' : Nat, EP X pins σ Q (.str d.shown s.toks) { s with toks := t' } := fun t' => ⟨.str d.shown, H, I.tok _, ⟨_, rfl⟩, q⟩
  have far : ∀ {a : Addr}, Reads s.heap (.ref a) d as → wpAny (model X.prog X.w) X.A (call (.builtin "repr") [.ref a]) (EP X pins σ Q) X.xe s := fun {a} R =>
    repr_of_reads' R hs (PyData.noDict_hsm hd) hg (by omega) (fun _ _ z => z) (fun h' t tk k => ⟨.str d.shown, H, I.kept k, ⟨_, rfl⟩, q⟩) hz
  cases R with
  | none =>
    rw [PyData.shown_none] at back
    exact PySem.P.repr_of_none (back _)
  | bool b =>
    rw [PyData.shown_bool] at back
    refine PySem.P.repr_of_bool ?_
    cases b <;> exact back _
  | int i t =>
    rw [PyData.shown_int] at back
    exact PySem.P.repr_of_int (of_decide_eq_true hs) (back _)
  | str x t =>
    rw [PyData.shown_str] at back hz
    exact PySem.P.repr_of_str (back _) hz
  | list h1 h2 h3 h4 => exact far (.list h1 h2 h3 h4)
  | tuple h1 h2 h3 h4 => exact far (.tuple h1 h2 h3 h4)
  | dict h1 h2 h3 h4 h5 => exact far (.dict h1 h2 h3 h4 h5)
theorem call_reprD (hg : X.A.guards = some []) (hu : X.A.units + 64 < cLine) : CallR X (.builtin "repr") (rRepr X.K) := by
  intro pins s σ H xs us Q I r h
  obtain ⟨v, n, d, rfl, e, hs, hd, hp, hz, q⟩ := h
  obtain ⟨u, rfl, ru⟩ := vals1 r
  obtain ⟨as, R⟩ := reads_of I n v d u e ru
  exact repr_go hg hu I R hs hd hp hz q
end
section
variable {X : Cx} {CX : CXT} {k : Nat} {f C : Addr} {fd : FuncData} {ps : List Str} {sp : Sp} {E : XK}
/-- an own method called by the interpreter, under a builtin -/
theorem run_own {A : Around} {pins : List (Addr × Obj)} {σ : L2.St} {H : Hp} {s : Shared} {Q : VK} {us : List Value} {vs : List V} (F : FnOk X.prog X.w X.K X.mg X.base CX k f fd ps sp) (hr : Room k A) (hf : A.frames = X.A.frames) (hb : Binds X.K fd ps []) (hx : Passes CX X E)
    (I : Inv X pins σ H s) (r : Vals vs us) (h : sp vs H Q E) : wpAny (model X.prog X.w) A (call (.ref f) us) (EP X pins σ Q) X.xe s := by
  have hl : us.length = ps.length := by rw [← r.length]; exact F.len _ _ _ _ h
  have e0 := I.env0
  have e1 : Env0 X.prog X.w X.K X.mg X.base A X.stack s H := ⟨by rw [hf]; exact e0.frames, e0.mod, e0.bs, e0.bsz, e0.funs, e0.frf, e0.hok, e0.bare⟩
  have b := hb s us I.kIn (by rw [List.append_nil]; exact hl)
  rw [List.append_nil] at b
  refine wpAny_call (codeAny_mono (F.run A X.stack s H ⟨us, []⟩ us vs Q E hr e1 b r h) fun z s' hq => ?_)
  rcases z with e | fl
  · exact hx pins σ H s e s' I hq
  · rcases fl with _ | _ | _ | u
    all_goals first | exact I.after hq | exact hq.elim
/-- len(o), o with an own __len__ -/
theorem call_lenOwn (F : FnOk X.prog X.w X.K X.mg X.base CX k f fd ps sp) (hr : Room (k + 1) X.A) (hs : PySem.W.findIn X.K (.ref C) "__len__" = some (some (.ref f))) (hf : PySem.W.isFn X.K (.ref f) = true) (hb : Binds X.K fd ps []) (hx : Passes CX X E) :
    CallR X (.builtin "len") (fun xs H Q => ∃ (x dx : Addr) (fs : List (Str × V)), xs = [.ref x] ∧ H x = some (.ins C dx fs) ∧ sp [.ref x] H (fun v H' => ∃ n : Int, v = .int n ∧ 0 ≤ n ∧ n < 2 ^ 63 ∧ Q (.int n) H') E) := by
  intro pins s σ H xs us Q I r h
  obtain ⟨x, dx, fs, rfl, hx0, q⟩ := h
  obtain ⟨u, rfl, ru⟩ := vals1 r
  cases ru
  obtain ⟨mA, J, _⟩ := ins_get I.hok hx0
  obtain ⟨od, J, _⟩ := J.look
  obtain ⟨m, hF⟩ := I.fr
  refine PySem.W.len_K hF I.ok.mod.kin J hs hf (wpAny_mono (run_own (A := X.A.in1) F hr.in1 rfl hb hx I (.cons (show L2.RelV (.ref x) (Value.ref x) from rfl) .nil) q) (fun v s' z => ?_) fun _ _ z => z)
  obtain ⟨y, H', I', ry, n, rfl, n0, n1, q'⟩ := z
  obtain ⟨t, rfl⟩ := ry
  exact ⟨⟨n0, n1⟩, .int n, H', I'.tok _, ⟨_, rfl⟩, q'⟩
/-- v in o, o with an own __contains__ -/
def rInO (C : Addr) (sp : Sp) (E : XK) (neg : Bool) : R2 := fun x y H Q => ∃ (a dx : Addr) (fs : List (Str × V)), y = .ref a ∧ H a = some (.ins C dx fs) ∧ sp [.ref a, x] H (fun v H' => ∃ b, v = .bl b ∧ Q (.bl (if neg = true then !b else b)) H') E
theorem op_inOwn (F : FnOk X.prog X.w X.K X.mg X.base CX k f fd ps sp) (hr : Room k X.A) (hs : PySem.W.findIn X.K (.ref C) "__contains__" = some (some (.ref f))) (hf : PySem.W.isFn X.K (.ref f) = true) (hb : Binds X.K fd ps []) (hx : Passes CX X E) :
    OpR X (compareOp .In) (rInO C sp E false) := by
  intro pins s σ H x y v u Q I rx ry h
  obtain ⟨a, dx, fs, rfl, hx0, q⟩ := h
  cases ry
  obtain ⟨mA, J, _⟩ := ins_get I.hok hx0
  obtain ⟨od, J, _⟩ := J.look
  obtain ⟨m, hF⟩ := I.fr
  refine PySem.W.in_K hF I.ok.mod.kin J hs hf (wpAny_mono (run_own F hr rfl hb hx I (.cons (show L2.RelV (.ref a) (Value.ref a) from rfl) (.cons rx .nil)) q) (fun v s' z => ?_) fun _ _ z => z)
  obtain ⟨y, H', I', ry, b, rfl, q'⟩ := z
  cases ry
  exact wpAny_truthy_bool ⟨.bl b, H', I', rfl, q'⟩
theorem op_notInOwn (F : FnOk X.prog X.w X.K X.mg X.base CX k f fd ps sp) (hr : Room k X.A) (hs : PySem.W.findIn X.K (.ref C) "__contains__" = some (some (.ref f))) (hf : PySem.W.isFn X.K (.ref f) = true) (hb : Binds X.K fd ps []) (hx : Passes CX X E) :
    OpR X (compareOp .NotIn) (rInO C sp E true) := by
  intro pins s σ H x y v u Q I rx ry h
  obtain ⟨a, dx, fs, rfl, hx0, q⟩ := h
  cases ry
  obtain ⟨mA, J, _⟩ := ins_get I.hok hx0
  obtain ⟨od, J, _⟩ := J.look
  obtain ⟨m, hF⟩ := I.fr
  refine PySem.W.notIn_K hF I.ok.mod.kin J hs hf (wpAny_mono (run_own F hr rfl hb hx I (.cons (show L2.RelV (.ref a) (Value.ref a) from rfl) (.cons rx .nil)) q) (fun v s' z => ?_) fun _ _ z => z)
  obtain ⟨y, H', I', ry, b, rfl, q'⟩ := z
  cases ry
  exact wpAny_truthy_bool ⟨.bl (!b), H', I', rfl, q'⟩
/-- o == v, o with an own __eq__, v another such object or a text -/
def rEqO (K : PySem.W.Frag) (C : Addr) (sp : Sp) (E : XK) : R2 := fun x y H Q => ∃ (a dx : Addr) (fs : List (Str × V)), x = .ref a ∧ H a = some (.ins C dx fs) ∧ ((∃ (b dy : Addr) (gs : List (Str × V)), y = .ref b ∧ H b = some (.ins C dy gs)) ∨ ((∃ z, y = .str z) ∧ PySem.W.notFirst K C (.type "str") = true)) ∧
  sp [.ref a, y] H (fun v H' => ∃ b, v = .bl b ∧ Q (.bl b) H') E
theorem op_eqOwn (F : FnOk X.prog X.w X.K X.mg X.base CX k f fd ps sp) (hr : Room k X.A) (hs : PySem.W.findIn X.K (.ref C) "__eq__" = some (some (.ref f))) (hf : PySem.W.isFn X.K (.ref f) = true) (hb : Binds X.K fd ps []) (hx : Passes CX X E) :
    OpR X (compareOp .Eq) (rEqO X.K C sp E) := by
  intro pins s σ H x y v u Q I rx ry h
  obtain ⟨a, dx, fs, rfl, hx0, hy, q⟩ := h
  cases rx
  obtain ⟨mA, J, _⟩ := ins_get I.hok hx0
  obtain ⟨od, J, _⟩ := J.look
  obtain ⟨m, hF⟩ := I.fr
  have fin : ∀ tb, PySem.W.Looks (model X.prog X.w) s.heap (typeOf u) tb → PySem.W.notFirst X.K C tb = true → wpAny (model X.prog X.w) X.A (compareOp .Eq (.ref a) u) (EP X pins σ Q) X.xe s := fun tb ht hn =>
    PySem.W.cmp_K (op := .Eq) hr.units0 hF I.ok.mod.kin J ht hn hs hf (wpAny_mono (run_own F hr rfl hb hx I (.cons (show L2.RelV (.ref a) (Value.ref a) from rfl) (.cons ry .nil)) q) (fun v s' z => by
      obtain ⟨y, H', I', ry, b, rfl, q'⟩ := z
      cases ry
      exact ⟨.bl b, H', I', rfl, q'⟩) fun _ _ z => z)
  rcases hy with ⟨b, dy, gs, rfl, hb0⟩ | ⟨⟨z, rfl⟩, hn⟩
  · cases ry
    obtain ⟨mB, J', _⟩ := ins_get I.hok hb0
    obtain ⟨od', J', _⟩ := J'.look
    exact fin _ J'.type (by simp [PySem.W.notFirst])
  · obtain ⟨t, rfl⟩ := ry
    exact fin _ (PySem.W.Looks.of_pure rfl) hn
end
section
variable {X : Cx} {o e : Expr} {es : List Expr} {to : TE} {t : TA} {name : Str} {apos cpos : Pos} {id : String} {r : V → List V → Hp → VK → Prop}
/-- o.name(e, ..), o a tuple that stands as the very object -/
def tTupF (r : V → List V → Hp → VK → Prop) (to : TE) (t : TA) : TE := fun σ H Q => to σ H fun x H1 => (∃ (p : Addr) (ob : Obj) (ys : List V), x = .ref p ∧ H1 p = some (.frz ob (.tup ys)) ∧ ob.dict = none) ∧ t σ H1 fun xs H2 => r x xs H2 Q
theorem pe_tupF (pa : PlainAttrs "tuple") (slot : Slot "tuple" name id) (ty : typeOf (.builtin id) = pure (.type "method_descriptor")) (hm : MtR X id r) (ho : PE X o to) (ha : PA X (e :: es) t) (hbase : attributeBase o name X.env (eval o X.env) = eval o X.env := by rfl)
    (few : ((backTo cpos (starEach (e :: es) X.env)).all (fun x => !x.1) && (backToKw cpos (keywordEach [] X.env)).all (fun x => x.1.isSome) && decide ((e :: es).length + ([] : List Keyword).length + (if ([] : List Keyword).isEmpty then 0 else 1) < 30)) = true := by rfl)
    (line : (apos.endLine == cpos.line) = true := by rfl) (st : starEach (e :: es) X.env = (false, eval e X.env) :: starEach es X.env := by rfl) (pl : (backTo cpos (starEach es X.env)).any (·.1) = false := by rfl) :
    PE X (.Call (.Attribute o name apos) (e :: es) [] cpos) (tTupF r to t) := by
  refine ⟨fun pins s σ H Q I h => wpAny_Call_method_late hbase few line rfl (thn (ho.run pins s σ H _ I h) ?_)⟩
  rintro v s1 ⟨x, H1, I1, rx, ⟨p, ob, ys, rfl, hp, hd⟩, q⟩
  cases (show v = Value.ref p from rx)
  obtain ⟨g, _, _, _, ob', g1, g2, _⟩ := (show ObjOk X.prog X.w H1 s1.heap p (.frz ob (.tup ys)) from I1.hok p _ hp)
  refine ⟨"tuple", id, pa, slot, ty, ⟨ob', g1, g2⟩, fun a z => ?_, ?_⟩
  · cases z
    exact ⟨ob, g, hd⟩
  · have A := ha.run cpos pins s1 σ H1 _ I1 q
    rw [st] at A ⊢
    refine Calls.callWith_builtin (by show (false || (backTo cpos (starEach es X.env)).any (·.1)) = false; rw [pl] <;> rfl) (Calls.evalArgs_plain ?_)
    exact thn A fun us s2 ⟨vs, H2, I2, r2, q2⟩ => hm pins s2 σ H2 (.ref p) vs (.ref p) us Q I2 rfl r2 q2
end
end OGX
set_option Elab.async false
set_option linter.all false
set_option maxRecDepth 100000
set_option maxHeartbeats 4000000
namespace OGX
open PySem PySem.Spec PyProof.Rows L2
section
variable {prog : Program} {w : World} {A : Around} {E : Value → Shared → Prop} {s : Shared} {K : PySem.W.Frag} {x y C f : Addr} {ox oy : Obj} {od od' : Option Obj}
theorem ne_checked {Q : Unit → Shared → Prop} (KX : K.In s.heap) (J : PySem.W.InstAt s.heap x ox C od) (hob : PySem.W.subIn K (.ref C) (.type "object") = some true) (q : Q () s) :
    wpAny (model prog w) A (checkBuiltinCall "object.__ne__" ⟨[.ref x, .ref y], []⟩) Q E s := by
  simp only [checkBuiltinCall, F.cmpKind_ne, F.cmpSplit_ne]
  refine wpAny_bind ?_
  unfold isInstance
  refine wpAny_bind (J.type.here ?_)
  refine (PySem.W.looks_subIn KX hob).here ?_
  have ha := F.cmpArgs_ne (.ref x) (.ref y)
  rw [if_neg (show ¬ (!true) = true from fun z => by cases z)]
  unfold argsOk at ha
  split at ha
  · rename_i sig e
    rw [e]
    show wpAny _ _ (Bind.checkArgs "object.__ne__" sig ⟨[.ref x, .ref y], []⟩) Q E s
    rw [show Bind.checkArgs "object.__ne__" sig ⟨[.ref x, .ref y], []⟩ = pure () from ha]
    exact wpAny_pure q
  · rename_i e
    split
    · rename_i sig e2
      first
        | exact absurd e2 (by intro z; simp_all)
        | (rw [e2] at e; cases e)
    · exact wpAny_pure q
theorem ne_builtin {Q : Value → Shared → Prop} (KX : K.In s.heap) (J : PySem.W.InstAt s.heap x ox C od) (hob : PySem.W.subIn K (.ref C) (.type "object") = some true) (heq : PySem.W.findIn K (.ref C) "__eq__" = some (some (.ref f))) (hf : PySem.W.isFn K (.ref f) = true) (hu : A.units + 1 < cLine)
    (h : wpAny (model prog w) A.in1 (call (.ref f) [.ref x, .ref y]) (fun v s' => ∃ b, v = .bool b ∧ Q (.bool (!b)) s') E s) :
    wpAny (model prog w) A (call (.builtin "object.__ne__") [.ref x, .ref y]) Q E s := by
  refine wpAny_call (codeAny_call_builtin F.cmp_object.ne.plain F.cmpEntry_ne (ne_checked KX J hob ?_))
  unfold Builtin.«object.__ne__»
  repeat (first
    | with_reducible refine wpAny_cRoomFor hu ?_
    | (refine wpAny_bind (m := callSpecialIfBound? (.ref x) (Str.ofString "__eq__") [.ref y]) (PySem.W.ifBound_K KX J heq hf (wpAny_mono h (fun v s' z => ?_) fun _ _ e => e)))
    | wp_step)
  obtain ⟨b, rfl, q⟩ := z
  dsimp only
  exact wpAny_bind (wpAny_truthy_bool (wpAny_pure q))
theorem ne_rich {Q : Value → Shared → Prop} (KX : K.In s.heap) (J : PySem.W.InstAt s.heap x ox C od) (J2 : PySem.W.InstAt s.heap y oy C od') (hob : PySem.W.subIn K (.ref C) (.type "object") = some true) (hne : PySem.W.findIn K (.ref C) "__ne__" = some (some (.builtin "object.__ne__")))
    (heq : PySem.W.findIn K (.ref C) "__eq__" = some (some (.ref f))) (hf : PySem.W.isFn K (.ref f) = true) (hu : A.units + 2 < cLine)
    (h : wpAny (model prog w) A.in1 (call (.ref f) [.ref x, .ref y]) (fun v s' => ∃ b, v = .bool b ∧ Q (.bool (!b)) s') E s) :
    wpAny (model prog w) A (richCompare .NotEq (.ref x) (.ref y)) Q E s := by
  have fin : wpAny (model prog w) A (tryCompare (.ref x) (Str.ofString "__ne__") (.ref y)) (fun r s' => ∃ v, r = some v ∧ Q v s') E s := by
    unfold tryCompare
    refine wpAny_bind ?_
    simp only [callSpecialIfBound?, bindSpecialIfBound?]
    refine wpAny_holding (wpAny_bind (wpAny_bind (wpAny_bind (J.type.here ((PySem.W.looks_findIn KX hne).here ?_)))))
    simp only [F.cmp_object.ne.bind]
    have fin : wpAny (model prog w) A (call (.builtin "object.__ne__") ([.ref x] ++ [.ref y])) (fun v s' => ∃ b, v = .bool b ∧ Q (.bool b) s') E s :=
      ne_builtin KX J hob heq hf (by omega) (wpAny_mono h (fun v s' z => by
        obtain ⟨b, rfl, q⟩ := z
        exact ⟨b, rfl, !b, rfl, q⟩) fun _ _ z => z)
    have go : wpAny (model prog w) A (match (some (Value.builtin "object.__ne__", [Value.ref x]) : Option (Value × List Value)) with
        | some (g, first) => do
          let v ← call g (first ++ [Value.ref y])
          pure (some v)
        | _ => pure none) (fun a s' => wpAny (model prog w) A (match a with
            | some Value.notImplemented => pure none
            | none => pure none
            | some v => pure (some v)) (fun r s' => ∃ v, r = some v ∧ Q v s') E s') E s := by
      dsimp only
      refine wpAny_bind (wpAny_mono fin (fun v s' z => ?_) fun _ _ z => z)
      obtain ⟨b, rfl, q⟩ := z
      exact wpAny_pure (wpAny_pure ⟨_, rfl, q⟩)
    refine wpAny_bind (wpAny_askSetting (wpAny_ite ?_))
    split
    · exact wpAny_bind (wpAny_pure (wpAny_pure go))
    · exact wpAny_tryCatch (wpAny_bind (wpAny_pure (wpAny_pure go)))
  unfold richCompare
  simp only [oneThing_ref]
  refine wpAny_holding (wpAny_bind (wpAny_cRoomFor (by omega) ?_))
  rw [cmpInfo_NotEq]
  dsimp only
  refine wpAny_bind (J.type.here (wpAny_bind (J2.type.here ?_)))
  rw [show (Value.ref C != Value.ref C) = false from by simp]
  simp only [Bool.false_eq_true, if_false]
  refine wpAny_bind (wpAny_pure ?_)
  simp only [Bool.false_eq_true, if_false]
  refine wpAny_bind (wpAny_mono fin (fun r s' z => ?_) fun _ _ z => z)
  obtain ⟨v, rfl, q⟩ := z
  exact wpAny_pure q
end
section
variable {X : Cx} {CX : CXT} {k : Nat} {f C : Addr} {fd : FuncData} {ps : List Str} {sp : Sp} {E : XK}
/-- o != another one, by the own __eq__ -/
def rNeO (C : Addr) (sp : Sp) (E : XK) : R2 := fun x y H Q => ∃ (a dx : Addr) (fs : List (Str × V)) (b dy : Addr) (gs : List (Str × V)), x = .ref a ∧ y = .ref b ∧ H a = some (.ins C dx fs) ∧ H b = some (.ins C dy gs) ∧
  sp [.ref a, .ref b] H (fun v H' => ∃ r, v = .bl r ∧ Q (.bl (!r)) H') E
theorem op_neOwn (F : FnOk X.prog X.w X.K X.mg X.base CX k f fd ps sp) (hr : Room (k + 1) X.A) (hs : PySem.W.findIn X.K (.ref C) "__eq__" = some (some (.ref f))) (hf : PySem.W.isFn X.K (.ref f) = true) (hn : PySem.W.findIn X.K (.ref C) "__ne__" = some (some (.builtin "object.__ne__"))) (ho : PySem.W.subIn X.K (.ref C) (.type "object") = some true)
    (hb : Binds X.K fd ps []) (hx : Passes CX X E) : OpR X (compareOp .NotEq) (rNeO C sp E) := by
  intro pins s σ H x y v u Q I rx ry h
  obtain ⟨a, dx, fs, b, dy, gs, rfl, rfl, ha, hb0, q⟩ := h
  cases rx
  cases ry
  obtain ⟨mA, J, _⟩ := ins_get I.hok ha
  obtain ⟨od, J, _⟩ := J.look
  obtain ⟨mB, J', _⟩ := ins_get I.hok hb0
  obtain ⟨od', J', _⟩ := J'.look
  refine ne_rich I.kIn J J' ho hn hs hf (by have := hr.units; omega) (wpAny_mono (run_own (A := X.A.in1) F hr.in1 rfl hb hx I (.cons (show L2.RelV (.ref a) (Value.ref a) from rfl) (.cons (show L2.RelV (.ref b) (Value.ref b) from rfl) .nil)) q) (fun v s' z => ?_) fun _ _ z => z)
  obtain ⟨y, H', I', ry, r, rfl, q'⟩ := z
  cases ry
  exact ⟨r, rfl, .bl (!r), H', I', rfl, q'⟩
end
end OGX
set_option Elab.async false
set_option linter.all false
set_option maxRecDepth 100000
set_option maxHeartbeats 4000000
namespace OGX
open PySem PySem.Spec PyProof.Rows L2
/-- a promise where no repr is under way -/
structure FnG (P : Program) (w : World) (K : PySem.W.Frag) (mg : Str → Option Value) (base : Heap) (k : Nat) (f : Addr) (fd : FuncData) (ps : List Str) (sp : Sp) : Prop where
  len : ∀ vs H Q E, sp vs H Q E → vs.length = ps.length
  run : ∀ (A : Around) (outer : List Env) (s : Shared) (H : Hp) (args : Args) (us : List Value) (vs : List V) (Q : VK) (E : XK), A.guards = some [] → Room k A → Env0 P w K mg base A outer s H → BindsTo s fd args (ps.zip us) → Vals vs us → sp vs H Q E →
    codeAny (model P w) A (.call (.ref f) args) (CR CX0 outer P w H s Q E) s
theorem FnG.mono {P : Program} {w : World} {K : PySem.W.Frag} {mg : Str → Option Value} {base : Heap} {j k : Nat} {f : Addr} {fd : FuncData} {ps : List Str} {sp : Sp} (F : FnG P w K mg base j f fd ps sp) (h : j ≤ k) : FnG P w K mg base k f fd ps sp :=
  ⟨F.len, fun A outer s H args us vs Q E hg hr => F.run A outer s H args us vs Q E hg (hr.mono h)⟩
section
variable {P : Program} {w : World} {K : PySem.W.Frag} {mg : Str → Option Value} {base : Heap}
theorem okG {x qual : Str} {st : Stmt} {f : Addr} {fd : FuncData} {N ps : List Str} {k : Nat} {sp : Sp} (F : Fun K x qual st f fd) (S : FnScope N ps (defScope st)) (len : ∀ vs H Q E, sp vs H Q E → vs.length = ps.length)
    (body : ∀ (cdv : Value) (A : Around) (outer : List Env) (s : Shared) (H : Hp) (vs : List V) (Q : VK) (E : XK), A.guards = some [] → Room k (A.deeper (envOfC qual (defScope st) s.heap.objs.size f cdv)) → sp vs H Q E →
      ∃ t, PSs (cxOf CX0 P w K mg base N qual (defScope st) f cdv A outer s H E).nox (defBody st) t ∧ t { nx := fun _ H' => Q .non H', rt := Q } (start N vs) H) : FnG P w K mg base (k + 1) f fd ps sp := by
  obtain ⟨oc, od, kV, doc, pm, an, cdv, ct, osl, rfl, lk, hcd⟩ := F.ex
  refine ⟨len, fun A outer s H args us vs Q E hg hr e0 hb r q => ?_⟩
  have toNow : ∀ b o, base.get? b = some o → s.heap.get? b = some o := fun b o e => (e0.bs b o e).1
  have KX := e0.mod.kin.keeps toNow
  have lim := e0.mod.nolimit.keeps toNow
  have kinds : ∀ y ∈ ps.zip us, (defScope st).names.lookup y.1 = some .local ∨ ((defScope st).names.lookup y.1 = some .cell ∧ ((cellsFrom (s.heap.objs.size + 1) (defScope st).names []).lookup y.1).isSome = true) := by
    rintro ⟨n, v⟩ hy
    refine (S.par n (List.of_mem_zip hy).1).imp id fun c => ⟨c, PySem.W.cellsFrom_some _ _ _ (.inl c)⟩
  refine codeAny_call_function hr.depth (KX _ _ lk) rfl S.co S.gen rfl (PySem.W.codeRec_of KX hcd) (hb _ _ _ _ (wpAny_newFunctionEnv_cells S.kind kinds fun env he s1 x => ?_))
  cases he
  refine ⟨lim.keeps x.toInCall.keep, codeAny_func ?_⟩
  obtain ⟨t, ht, hq⟩ := body cdv A outer s H vs Q E hg (hr.deeper _) q
  refine wpAny_mono (ht.nox.run [] s1 (start N vs) H _ (inv_start S hr.hd e0 (len _ _ _ _ q) r x) hq) (fun fl s' z => ?_) fun _ _ z => z
  rcases fl with _ | _ | _ | u
  · obtain ⟨_, H', J, q'⟩ := z
    exact ⟨V.non, H', J.os, J.bare, J.base, J.hok, rfl, q'⟩
  · exact z.elim fun _ z => z.elim fun _ z => z.2.elim
  · exact z.elim fun _ z => z.elim fun _ z => z.2.elim
  · obtain ⟨v, _, H', J, rv, q'⟩ := z
    exact ⟨v, H', J.os, J.bare, J.base, J.hok, rv, q'⟩
end
section
variable {X : Cx} {k : Nat} {f : Addr} {fd : FuncData} {ps : List Str} {sp : Sp} {x : Str} {p pos : Pos} {e : Expr} {es : List Expr} {t : TA}
theorem pe_callG (F : FnG X.prog X.w X.K X.mg X.base k f fd ps sp) (hu : X.A.guards = some []) (hr : Room k X.A) (hg : Gl X x) (hm : X.mg x = some (.ref f)) (hk : PySem.W.keepIn X.K (.ref f) = true) (hb : Binds X.K fd ps [])
    (ha : PA X (e :: es) t) (hdb : (x == ("__debug__" : Str)) = false := by decide) (he : starEach (e :: es) X.env = (false, eval e X.env) :: starEach es X.env := by rfl) (hpl : (backTo pos (starEach es X.env)).any (·.1) = false := by rfl) :
    PE X (.Call (.Name x p) (e :: es) [] pos) (tCall sp [] E0 t) := by
  refine ⟨fun pins s σ H Q I h => wpAny_Call_Name_kw (ld_glob I hg hm (PySem.W.callWith_K (h₀ := X.base) I.ok.mod.kin hk (thn (ha.run pos pins s σ H _ I h) fun us s1 ⟨vs, H1, I1, r, q⟩ => ⟨I1.kIn, ?_⟩) he hpl) hdb)⟩
  have q : sp vs H1 Q E0 := by
    have q : sp (vs ++ []) H1 Q E0 := q
    rw [List.append_nil] at q
    exact q
  have hl : us.length = ps.length := by rw [← r.length]; exact F.len _ _ _ _ q
  have b := hb s1 us I1.kIn (by rw [List.append_nil]; exact hl)
  rw [List.append_nil] at b
  refine wpAny_call (codeAny_mono (F.run X.A X.stack s1 H1 ⟨us, []⟩ us vs Q E0 hu hr I1.env0 b r q) fun z s' hq => ?_)
  rcases z with e | fl
  · exact hq.elim
  · rcases fl with _ | _ | _ | u
    all_goals first | exact I1.after hq | exact hq.elim
end
/-- the law's call at the heap behind the top: the script's list alone is tracked -/
theorem law_callG {P : Program} {w : World} {K : PySem.W.Frag} {mg mb : Str → Option Value} {k : Nat} {fa a : Addr} {fd : FuncData} {x : Str} {sp : Sp} {s₁ : Shared} {vs : List Value} {ns : List Int}
    (KX : K.In s₁.heap) (G : s₁.heap.Ns mainGlobals mg) (B : s₁.heap.Ns builtinsNs mb) (bs : ∀ x : Str, x ≠ "__name__" → mb x = bootBuiltins x) (lim : s₁.heap.NoLimit) (gens : s₁.gens = #[])
    (ha : s₁.heap.get? a = some { cls := .type "list", data := .seq vs.toArray }) (hi : IntsAre vs ns) (hl : ns.length ≤ sizeLine) (hr : Room k callerA)
    (F : ∀ base : Heap, K.In base → base.Ns mainGlobals mg → FnG P w K mg base k fa fd [x] sp) (hb : ∀ (s : Shared) (u : Value), BindsTo s fd ⟨[u], []⟩ [(x, u)])
    (hsp : ∀ H : Hp, SqL K H a (ns.map V.int) → sp [.ref a] H (fun v _ => v = .bl true) E0) :
    codeAny (model P w) callerA (.call (.ref fa) ⟨[.ref a], []⟩) (fun r s' => r = .ok (.ret (.bool true)) ∧ OldK s₁.heap s'.heap ∧ s'.os = s₁.os ∧ AllBare s'.gens) s₁ := by
  have rv := vals_ints hi
  have go : ∀ H : Hp, (∀ b u, H b = some u → b = a ∧ K.lookup a = none ∧ u = .frz { cls := .type "list", data := .seq vs.toArray } (.lst (ns.map V.int))) → SqL K H a (ns.map V.int) →
      codeAny (model P w) callerA (.call (.ref fa) ⟨[.ref a], []⟩) (fun r s' => r = .ok (.ret (.bool true)) ∧ OldK s₁.heap s'.heap ∧ s'.os = s₁.os ∧ AllBare s'.gens) s₁ := by
    intro H hH hS
    have out : ∀ {b : Addr} {o : Obj}, s₁.heap.get? b = some o → (b = a → False) → (hidT s₁.heap H).get? b = some o := fun {b o} e n => hidT_get e (by
      cases q : H b with
      | none => rfl
      | some u => exact (n (hH b u q).1).elim)
    have ns1 : ∀ {b : Addr} {m : Str → Option Value}, s₁.heap.Ns b m → (hidT s₁.heap H).Ns b m := by
      rintro b m ⟨o, es, ep, e, d, r⟩
      refine ⟨o, es, ep, out e (fun z => ?_), d, r⟩
      rw [z, ha] at e
      cases e
      cases d
    have K1 : K.In (hidT s₁.heap H) := fun b o e => hidT_get (KX b o e) (by
      cases q : H b with
      | none => rfl
      | some u =>
        obtain ⟨z, hk, _⟩ := hH b u q
        rw [z, hk] at e
        cases e)
    obtain ⟨mc, l1, l2⟩ := lim
    have e0 : Env0 P w K mg (hidT s₁.heap H) callerA [] s₁ H := {
      frames := rfl
      mod := ⟨K1, ns1 G, ⟨mb, ns1 B, bs⟩, ⟨mc, ns1 l1, l2⟩⟩
      bs := fun b o e => of_hidT e
      bsz := Nat.le_of_eq (hidT_size _ _)
      funs := trivial
      frf := fun b z => by cases z
      hok := fun b u q => by
        obtain ⟨z, _, rfl⟩ := hH b u q
        rw [z]
        exact ⟨ha, by rw [List.length_map]; exact hl, vs, _, rv, ha⟩
      bare := .of_eq gens }
    refine codeAny_mono ((F _ K1 (ns1 G)).run callerA [] s₁ H ⟨[.ref a], []⟩ [.ref a] [.ref a] _ _ rfl hr e0 (hb s₁ (.ref a)) (.cons rfl .nil) (hsp H hS)) fun r s' z => ?_
    rcases r with e | fl
    · exact z.elim
    rcases fl with _ | _ | _ | u
    case next => exact z.elim
    case brk => exact z.elim
    case cont => exact z.elim
    obtain ⟨v, H', os, bare, un, ok', rv', q⟩ := z
    cases (show v = .bl true from q)
    cases (show u = Value.bool true from rv')
    refine ⟨rfl, OldK.of_keep fun b o e => ?_, os, bare⟩
    cases q : H b with
    | none => exact un.keep b o e q (fun z => by cases z) (fun z => by cases z)
    | some t =>
      obtain ⟨rfl, _, rfl⟩ := hH b t q
      obtain ⟨g, _⟩ := ok' b _ (un.frzs b _ _ q)
      rw [ha] at e
      cases e
      exact g
  cases hk : K.lookup a with
  | some o =>
    have e := KX a o hk
    rw [ha] at e
    cases e
    exact go (fun _ => none) (fun b u z => by cases z) (.inr ⟨_, vs.toArray, _, hk, rfl, rfl, rfl, by rw [List.size_toArray, hi.length]; exact hl, by simpa using rv⟩)
  | none =>
    refine go (fun b => if b = a then some (.frz { cls := .type "list", data := .seq vs.toArray } (.lst (ns.map V.int))) else none) (fun b u z => ?_) (.inl (.inr ⟨{ cls := .type "list", data := .seq vs.toArray }, if_pos rfl⟩))
    by_cases h : b = a
    · exact ⟨h, hk, (Option.some.inj ((if_pos h).symm.trans z)).symm⟩
    · cases (if_neg h).symm.trans z
/-- the end -/
theorem walkG {l : PySem.W.OpenLaw} {n k : Nat} {q : Program} {loose : List Str} {XP : (Str → Option Value) → Heap → Prop} {YP : World → Heap → Prop} {d : DefRec} {K : Params → PySem.W.Frag} {x : Str}
    (h1 : l.most = some n) (h2 : n ≤ sizeLine) (h3 : d.params.defaults = []) (h4 : Room k callerA) (h5 : ∀ (w : World) (h : Heap), YP w h → (K w.params).In h)
    (h6 : ∀ (w : World) (mg : Str → Option Value) (fa : Addr) (h : Heap), YP w h → XP mg h → (K w.params).In h → h.Ns mainGlobals mg → mg d.name = some (.ref fa) → ∃ (fd : FuncData) (sp : Sp), (∀ (s : Shared) (u : Value), BindsTo s fd ⟨[u], []⟩ [(x, u)]) ∧
      (∀ (H : Hp) (a : Addr) (ns : List Int), ns.length ≤ n → (∀ z ∈ ns, Builtin.Int.intBits z ≤ 1048576) → SqL (K w.params) H a (ns.map V.int) → sp [.ref a] H (fun v _ => v = .bl true) E0) ∧
      ∀ base : Heap, (K w.params).In base → base.Ns mainGlobals mg → FnG l.prog w (K w.params) mg base k fa fd [x] sp) :
    PySem.W.WalkO q loose XP YP l.row.toRowW d [] (fun f vs => PySem.call f vs) := by
  refine Att.attach_callB h1 h3 fun w a0 a1 mg mb fa o pm cd doc a vs ns G Y b1 b2 b3 b4 b5 b6 b7 b8 b9 => ?_
  have X := h5 w _ Y
  obtain ⟨fd, sp, c4, c5, c6⟩ := h6 w mg fa _ Y G.X X G.T.g b4
  exact law_callG X G.T.g G.T.b G.T.builtins G.T.nolimit b9 b5 b6 (Nat.le_trans b7 h2) h4 c6 c4 fun H hS => c5 H a ns b7 b8 hS
end OGX
set_option Elab.async false
set_option linter.all false
set_option maxRecDepth 100000
set_option maxHeartbeats 8000000
namespace OG
open PySem PySem.Spec PyProof.Rows L2
/-- an own text is read as it was written -/
theorem own_right {b : Int} {m : Nat} {ms ks : List Str} {ws : List Int} {Ms : List (List (List Int))} (hb : b = 0 ∨ b ∈ primesL) (ok : BkOk b m ms ws ks Ms) (hM : ∀ M ∈ Ms, MatOk b m M) :
    byM (Txt.split ((Txt.split (bookText b ms ws ks Ms) "\n").head?.getD "") " ") = some b ∧ walkD b ((Txt.split (bookText b ms ws ks Ms) "\n").drop 1) [] [] = some (ms.zip ws, ks.zip (Ms.map List.flatten)) ∧ wrongM (bookText b ms ws ks Ms) = none := by
  have e1 : byM (Txt.split ((Txt.split (bookText b ms ws ks Ms) "\n").head?.getD "") " ") = some b := by
    rw [own_lines ok hM]
    exact by_own hb
  have e2 : walkD b ((Txt.split (bookText b ms ws ks Ms) "\n").drop 1) [] [] = some (ms.zip ws, ks.zip (Ms.map List.flatten)) := by
    rw [own_lines ok hM]
    exact own_walk ok hM
  refine ⟨e1, e2, ?_⟩
  have e3 := walk_both (i := 2) e2
  unfold wrongM
  rw [e1]
  show (match walkM b ((Txt.split (bookText b ms ws ks Ms) "\n").drop 1) 2 [] [] with
    | .inl i => some i
    | .inr mk => if mk.2 = [] then some ((Txt.split (bookText b ms ws ks Ms) "\n").length + 1) else none) = none
  rw [show walkM b ((Txt.split (bookText b ms ws ks Ms) "\n").drop 1) 2 [] [] = _ from e3]
  show (if (ks.zip (Ms.map List.flatten)).map (·.1) = [] then some ((Txt.split (bookText b ms ws ks Ms) "\n").length + 1) else none) = none
  rw [if_neg fun z => ?_]
  have l := congrArg List.length z
  rw [List.length_map, List.length_zip, List.length_map] at l
  have := ok.k1
  have := ok.ml
  simp only [List.length_nil] at l
  omega
theorem book_len {H : Hp} {o : Addr} {b : Int} {m : Nat} {ms ks : List Str} {ws : List Int} {Ms : List (List (List Int))} (hB : BookAt H o b m ms ws ks Ms) (ok : BkOk b m ms ws ks Ms) : (bookText b ms ws ks Ms).length ≤ 5100 := by
  have hm4 := ok.m4
  have hml := ok.nm.len
  have hwl := ok.wl
  have hk3 := ok.k3
  have hMl := ok.ml
  have hb0 := ok.b0
  have hb97 := ok.b97
  obtain ⟨kvs, tm, tw, tk, td, hO, hl10, v1, v2, hT2, v3, hT3, v4, hT4, v5, tkvs, hTd, tnd, tln, tabs⟩ := id hB
  have lb := istr_len (i := b) (by omega) (by omega)
  refine join_le (c := 254) (n := 20) (fun y hy => ?_) ?_ rfl
  · unfold bookLines at hy
    rcases List.mem_cons.mp hy with rfl | hy
    · rw [app_len]
      exact Nat.le_trans (Nat.add_le_add_left lb 5) (by decide)
    · rcases List.mem_append.mp hy with hy | hy
      · obtain ⟨z, wt, h1, h2, rfl⟩ := zw_mem hy
        obtain ⟨_, w1, w2, _⟩ := ok.w wt h2
        exact Nat.le_trans (markL_len (ok.nm.is z h1).2.1 w1 w2) (by decide)
      · obtain ⟨k, M, h1, h2, rfl⟩ := zw_mem hy
        obtain ⟨e1, e2⟩ := mats_of hB ok M h2
        exact kindL_len (ok.nk.is k h1).2.1 (fun row hr => ⟨by rw [(e2 row hr).1]; exact hm4, fun z hz => ⟨((e2 row hr).2 z hz).1, ((e2 row hr).2 z hz).2.1⟩⟩) (by omega)
  · unfold bookLines
    rw [List.length_cons, List.length_append, List.length_zipWith, List.length_zipWith]
    omega
/-- a Book stays -/
theorem ObjAt.kp {K : PySem.W.Frag} {mg : Str → Option Value} {T : Txt K mg} {H H' : Hp} {x p : Addr} {z : Str} {b : Int} {mw : List (Str × Int)} {kw : List (Str × List Int)} (h : ObjAt T H x z b mw kw) (hp : ∃ xs, H p = some (.lst xs)) (k : Kp p H H') : ObjAt T H' x z b mw kw := by
  obtain ⟨ys, hp⟩ := hp
  have go : ∀ {a o}, H a = some o → (∀ xs, o ≠ .lst xs) → H' a = some o := fun {a o} e n => k _ _ (fun z => by
    rw [z, hp] at e
    exact n ys (Option.some.inj e).symm) e
  have gm : ∀ {t xs}, MkT H t xs → MkT H' t xs := fun {t xs} ⟨o, e, d⟩ => ⟨o, go e (fun _ z => by cases z), d⟩
  obtain ⟨dx, t1, t2, a1, a2, fs, kv2, hx, l10, f1, f2, f3, g1, f4, g2, f5, g3, f6, g4, g5, n1, n2⟩ := h
  refine ⟨dx, t1, t2, a1, a2, fs, kv2, go hx (fun _ z => by cases z), l10, f1, f2, f3, gm g1, f4, gm g2, f5, go g3 (fun _ z => by cases z), f6, go g4 (fun _ z => by cases z), ?_⟩
  have key : ∀ {kv : List (Key × V)} {kw : List (Str × List Int)}, KvK H kv kw → KvK H' kv kw := by
    intro kv kw h
    induction h with
    | nil => exact .nil
    | cons h _ ih =>
      obtain ⟨e, t, et, ht⟩ := h
      exact .cons ⟨e, t, et, go ht (fun _ z => by cases z)⟩ ih
  exact ⟨key g5, n1, n2⟩
theorem ObjAt.same {K : PySem.W.Frag} {mg : Str → Option Value} {T : Txt K mg} {H H' : Hp} {x : Addr} {z : Str} {b : Int} {mw : List (Str × Int)} {kw : List (Str × List Int)} (h : ObjAt T H x z b mw kw) (s : Same H H') : ObjAt T H' x z b mw kw := by
  have gm : ∀ {t xs}, MkT H t xs → MkT H' t xs := fun {t xs} ⟨o, e, d⟩ => ⟨o, s _ _ e, d⟩
  obtain ⟨dx, t1, t2, a1, a2, fs, kv2, hx, l10, f1, f2, f3, g1, f4, g2, f5, g3, f6, g4, g5, n1, n2⟩ := h
  refine ⟨dx, t1, t2, a1, a2, fs, kv2, s _ _ hx, l10, f1, f2, f3, gm g1, f4, gm g2, f5, s _ _ g3, f6, s _ _ g4, ?_⟩
  have key : ∀ {kv : List (Key × V)} {kw : List (Str × List Int)}, KvK H kv kw → KvK H' kv kw := by
    intro kv kw h
    induction h with
    | nil => exact .nil
    | cons h _ ih =>
      obtain ⟨e, t, et, ht⟩ := h
      exact .cons ⟨e, t, et, s _ _ ht⟩ ih
  exact ⟨key g5, n1, n2⟩
/-- Book(text) of an own text -/
theorem book_made {K : PySem.W.Frag} {mg : Str → Option Value} {T : Txt K mg} {H : Hp} {b : Int} {m : Nat} {ms ks : List Str} {ws : List Int} {Ms : List (List (List Int))} {z : Str} {R : Addr → Hp → Prop} (ez : z = bookText b ms ws ks Ms) (hb : b = 0 ∨ b ∈ primesL) (ok : BkOk b m ms ws ks Ms) (hM : ∀ M ∈ Ms, MatOk b m M) (hz : z.length ≤ 900000)
    (q : ∀ (x : Addr) (H' : Hp), Same H H' → H x = none → ObjAt T H' x z b (ms.zip ws) (ks.zip (Ms.map List.flatten)) → R x H') :
    ∀ x dx, H x = none → H dx = none → dx ≠ x → spBookInitX T (.ref x :: ([.str z] ++ [])) (upd (upd H dx (.own x)) x (.ins T.c_Book dx [])) (fun v H2 => v = .non ∧ R x H2) E0 := by
  intro x dx hx hd ne
  obtain ⟨e1, e2, e3⟩ := own_right hb ok hM
  rw [← ez] at e1 e2 e3
  refine ⟨x, dx, .str z, H, rfl, fun a o e => ?_, hx, hz, upd_same, fun n hn => ?_, fun z' ez' _ b' mw kw H' s ho h1 h2 => ?_⟩
  · rw [upd_ne (ne_of_none e hx), upd_ne (ne_of_none e hd)]
    exact e
  · rw [show dueM (.str z) = wrongM z from rfl, e3] at hn
    cases hn
  · cases ez'
    rw [e1] at h1
    cases h1
    rw [e2] at h2
    cases h2
    exact ⟨rfl, q x H' s hx ho⟩
end OG
set_option Elab.async false
set_option linter.all false
set_option maxRecDepth 100000
set_option maxHeartbeats 4000000
namespace OGX
open PySem PySem.Spec PyProof.Rows L2
section
variable {X : Cx}
/-- repr of data at any depth -/
def rReprP (K : PySem.W.Frag) : List V → Hp → VK → Prop := fun xs H Q => ∃ (v : V) (d : PyData), xs = [v] ∧ Dp K H v d ∧ d.showable = true ∧ d.hasDict = false ∧ d.depth ≤ 60 ∧ d.shown.length ≤ sizeLine ∧ Q (.str d.shown) H
theorem call_reprP (hg : X.A.guards = some []) (hu : X.A.units + 64 < cLine) : CallR X (.builtin "repr") (rReprP X.K) := by
  intro pins s σ H xs us Q I r h
  obtain ⟨v, d, rfl, e, hs, hd, hp, hz, q⟩ := h
  obtain ⟨u, rfl, ru⟩ := vals1 r
  obtain ⟨as, R⟩ := Dp.reads I d v u e ru
  exact repr_go hg hu I R hs hd hp hz q
/-- x not in t, t a tuple of data -/
def rNotInT (K : PySem.W.Frag) : R2 := fun x y H Q => ∃ d ds, Dp K H x d ∧ Dp K H y (.tuple ds) ∧ SeqAt.shaped d = true ∧ SeqAt.shaped (.tuple ds) = true ∧ Q (.bl (!ds.any fun z => PyData.eqv z d)) H
theorem op_notInT (hu : X.A.units + 65 < cLine) : OpR X (compareOp .NotIn) (rNotInT X.K) := by
  intro pins s σ H x y v u Q I rx ry h
  obtain ⟨d, ds, hd, he, sd, se, q⟩ := h
  obtain ⟨as, r1⟩ := Dp.reads I d x v hd rx
  obtain ⟨bs, r2⟩ := Dp.reads I (.tuple ds) y u he ry
  exact SeqAt.notIn_tuple_reads r2 r1 (SeqAt.canLay_of_shaped se) (SeqAt.canLay_of_shaped sd) (PyProof.Rows.room_in_shaped sd hu) ⟨.bl _, H, I, rfl, q⟩
/-- what sorted makes of data -/
def sortD (ds : List PyData) : List PyData := ds.mergeSort (PySem.W.dataLe false id)
def rSortD (K : PySem.W.Frag) : List V → Hp → VK → Prop := fun vs H Q => ∃ (a : Addr) (xs : List V) (ds : List PyData), vs = [V.ref a] ∧ SqL K H a xs ∧ DpAll K H xs ds ∧ PySem.W.AllAlike ds ∧ PySem.W.Sortable ds ∧ (∀ d ∈ ds, d.depth ≤ 50) ∧
  ∀ (ys : List V) (p : Addr), DpAll K H ys (sortD ds) → H p = none → Q (.ref p) (upd H p (.lst ys))
theorem each_of {K : PySem.W.Frag} {H : Hp} : ∀ {xs : List V} {us : List Value} {ds : List PyData}, Vals xs us → DpAll K H xs ds → PySem.W.EachIs (fun v d => ∃ x, RelV x v ∧ Dp K H x d) us ds
  | _, _, _, .nil, .nil => .nil
  | _, _, _, .cons r t, .cons p q => .cons ⟨_, r, p⟩ (each_of t q)
theorem of_each {K : PySem.W.Frag} {H : Hp} : ∀ {us : List Value} {ds : List PyData}, PySem.W.EachIs (fun v d => ∃ x, RelV x v ∧ Dp K H x d) us ds → ∃ ys, Vals ys us ∧ DpAll K H ys ds
  | _, _, .nil => ⟨[], .nil, .nil⟩
  | _, _, .cons ⟨x, r, p⟩ t => by
    obtain ⟨ys, a, b⟩ := of_each t
    exact ⟨x :: ys, .cons r a, .cons p b⟩
theorem cr_sortD (hu : X.A.units + 64 < cLine) : CallR X (.builtin "sorted") (rSortD X.K) := by
  intro pins s σ H vs us Q I r h
  obtain ⟨a, xs, ds, rfl, hs, hd, hal, hk, hp, q⟩ := h
  obtain ⟨its, rv, hl, hz⟩ := I.list hs
  rw [Vals.ref1 r]
  have e := each_of rv hd
  have hlen : ds.length = its.length := (PySem.W.EachIs.length e).symm
  refine PySem.W.sorted_data (enc := id) hl.isList e (e.mono fun v d ⟨x, rx, dx⟩ => Dp.reads I d x v dx rx) (by rw [List.map_id]; exact hal) (by rw [List.map_id]; exact hk) (by rw [hlen, ← rv.length]; exact hz) (fun d hm => by have := hp d hm; show X.A.units + 2 + d.depth < cLine; omega) fun out h1 h2 => ?_
  obtain ⟨ep, he⟩ := PyProof.Rows.sortedAll_at s.heap its out.toArray
  obtain ⟨ys, ry, dy⟩ := of_each h2
  refine ⟨.ref _, upd H (s.heap.objs.size + 1) (.lst ys), I.laid (t' := s.toks) (fun _ _ => PyProof.Rows.sortedAll_old) (Nat.le_succ _) ⟨?_, out, ep, ry, he⟩, rfl, q ys _ dy (I.hok.fresh (Nat.le_succ _))⟩
  rw [ry.length, h1, hlen, ← rv.length]
  exact hz
end
section
variable {X : Cx} {CX : CXT} {k : Nat} {f : Addr} {fd : FuncData} {ps ks : List Str} {sp : Sp} {E : XK} {x : Str} {p pos : Pos} {kws : List Keyword} {tk : TA} {g : List Value → List Value → List Value} {gV : List V → List V → List V}
/-- f(k = v, ..) -/
theorem pe_callK0 (F : FnOk X.prog X.w X.K X.mg X.base CX k f fd ps sp) (hr : Room k X.A) (hg : Gl X x) (hm : X.mg x = some (.ref f)) (hk : PySem.W.keepIn X.K (.ref f) = true) (hb : KBinds X.K fd ps ks g gV) (hx : Passes CX X E) (hkw : PK X kws tk)
    (hall : (backToKw pos (keywordEach kws X.env)).all (·.1.isSome) = true := by rfl) (hks : (backToKw pos (keywordEach kws X.env)).filterMap (·.1) = ks := by rfl) (hdb : (x == ("__debug__" : Str)) = false := by decide)
    (hpl : ((backTo pos (starEach [] X.env)).any (·.1) || (backToKw pos (keywordEach kws X.env)).any (·.1.isNone)) = false := by rfl) : PE X (.Call (.Name x p) [] kws pos) (tCallK sp gV E tNil tk) := by
  refine ⟨fun pins s σ H Q I h => wpAny_Call_Name_kw (ld_glob I hg hm ?_ hdb)⟩
  refine PySem.W.callWith_KW0 (h₀ := X.base) I.ok.mod.kin hk hall (thn (hkw.run pos pins s σ H _ I h) fun ws s2 ⟨zs, H2, I2, rz, q2⟩ => ⟨I2.kIn, ?_⟩) hpl
  rw [hks]
  exact run_fnk (us := []) (vs := []) F hr hb hx I2 .nil rz q2
end
end OGX
set_option Elab.async false
set_option linter.all false
set_option maxRecDepth 100000
set_option maxHeartbeats 4000000
namespace OGX
open PySem PySem.Spec PyProof.Rows L2 LamX
/-- as law_callG, with one table of code objects, at Pt, of the code at c -/
theorem law_callGT {P : Program} {w : World} {K : PySem.W.Frag} {mg mb : Str → Option Value} {k : Nat} {fa a c Pt : Addr} {fd : FuncData} {x : Str} {sp : Sp} {s₁ : Shared} {vs : List Value} {ns : List Int}
    (KX : K.In s₁.heap) (G : s₁.heap.Ns mainGlobals mg) (B : s₁.heap.Ns builtinsNs mb) (bs : ∀ x : Str, x ≠ "__name__" → mb x = bootBuiltins x) (lim : s₁.heap.NoLimit) (gens : s₁.gens = #[])
    (tP : s₁.heap.get? Pt = some { cls := .none, data := .fields #[] }) (kP : K.lookup Pt = none) (cd : PySem.W.CodeHd s₁.heap c Pt)
    (bmod : ∃ (bm : Addr) (ob : Obj), mg "__builtins__" = some (.ref bm) ∧ bm ≠ builtinsNs ∧ s₁.heap.get? bm = some ob ∧ ob.cls = .type "module" ∧ ob.dict = some builtinsNs ∧ ob.data = .plain)
    (ha : s₁.heap.get? a = some { cls := .type "list", data := .seq vs.toArray }) (hi : IntsAre vs ns) (hl : ns.length ≤ sizeLine) (hr : Room k callerA)
    (F : ∀ base : Heap, K.In base → base.Ns mainGlobals mg → TabB base mg c Pt → FnG P w K mg base k fa fd [x] sp) (hb : ∀ (s : Shared) (u : Value), BindsTo s fd ⟨[u], []⟩ [(x, u)])
    (hsp : ∀ H : Hp, H Pt = some (.tbl #[]) → SqL K H a (ns.map V.int) → sp [.ref a] H (fun v _ => v = .bl true) E0) :
    codeAny (model P w) callerA (.call (.ref fa) ⟨[.ref a], []⟩) (fun r s' => r = .ok (.ret (.bool true)) ∧ OldK s₁.heap s'.heap ∧ s'.os = s₁.os ∧ AllBare s'.gens) s₁ := by
  have rv := vals_ints hi
  have naP : a ≠ Pt := fun z => by
    rw [z, tP] at ha
    cases ha
  have go : ∀ H : Hp, H Pt = some (.tbl #[]) → (∀ b u, H b = some u → b = Pt ∨ (b = a ∧ K.lookup a = none ∧ u = .frz { cls := .type "list", data := .seq vs.toArray } (.lst (ns.map V.int)))) → SqL K H a (ns.map V.int) →
      codeAny (model P w) callerA (.call (.ref fa) ⟨[.ref a], []⟩) (fun r s' => r = .ok (.ret (.bool true)) ∧ OldK s₁.heap s'.heap ∧ s'.os = s₁.os ∧ AllBare s'.gens) s₁ := by
    intro H hP hH hS
    have out : ∀ {b : Addr} {o : Obj}, s₁.heap.get? b = some o → (b = a → False) → (b = Pt → False) → (hidT s₁.heap H).get? b = some o := fun {b o} e n m => hidT_get e (by
      cases q : H b with
      | none => rfl
      | some u => exact ((hH b u q).elim m fun z => n z.1).elim)
    have ns1 : ∀ {b : Addr} {m : Str → Option Value}, s₁.heap.Ns b m → (hidT s₁.heap H).Ns b m := by
      rintro b m ⟨o, es, ep, e, d, r⟩
      refine ⟨o, es, ep, out e (fun z => ?_) (fun z => ?_), d, r⟩
      · rw [z, ha] at e
        cases e
        cases d
      · rw [z, tP] at e
        cases e
        cases d
    have K1 : K.In (hidT s₁.heap H) := fun b o e => hidT_get (KX b o e) (by
      cases q : H b with
      | none => rfl
      | some u =>
        rcases hH b u q with z | ⟨z, hk, _⟩
        · rw [z, kP] at e
          cases e
        · rw [z, hk] at e
          cases e)
    have TB : TabB (hidT s₁.heap H) mg c Pt := by
      refine ⟨?_, ?_, fun z => ?_⟩
      · obtain ⟨o, us, file, tf, flags, tg, inF, text, tt, e1, r1, r2, r3, r4, r5, r6, r7, r8, ne⟩ := cd
        refine ⟨o, us, file, tf, flags, tg, inF, text, tt, out e1 (fun z => ?_) ne, r1, r2, r3, r4, r5, r6, r7, r8, ne⟩
        rw [z, ha] at e1
        cases e1
        exact absurd r1 (by simp)
      · obtain ⟨bm, ob, b1, b2, b3, b4, b5, b6⟩ := bmod
        refine ⟨bm, ob, b1, b2, fun z => ?_, fun z => ?_, out b3 (fun z => ?_) (fun z => ?_), b4, b5, b6⟩
        · obtain ⟨o, es, ep, e, d, _⟩ := G
          rw [z, e] at b3
          cases b3
          rw [d] at b6
          cases b6
        · rw [z, tP] at b3
          cases b3
          cases b6
        · rw [z, ha] at b3
          cases b3
          cases b6
        · rw [z, tP] at b3
          cases b3
          cases b6
      · obtain ⟨o, es, ep, e, d, _⟩ := G
        rw [z, tP] at e
        cases e
        cases d
    obtain ⟨mc, l1, l2⟩ := lim
    have e0 : Env0 P w K mg (hidT s₁.heap H) callerA [] s₁ H := {
      frames := rfl
      mod := ⟨K1, ns1 G, ⟨mb, ns1 B, bs⟩, ⟨mc, ns1 l1, l2⟩⟩
      bs := fun b o e => of_hidT e
      bsz := Nat.le_of_eq (hidT_size _ _)
      funs := trivial
      frf := fun b z => by cases z
      hok := fun b u q => by
        rcases hH b u q with z | ⟨z, _, rfl⟩
        · rw [z] at q ⊢
          rw [hP] at q
          cases q
          exact tP
        · rw [z]
          exact ⟨ha, by rw [List.length_map]; exact hl, vs, _, rv, ha⟩
      bare := .of_eq gens }
    refine codeAny_mono ((F _ K1 (ns1 G) TB).run callerA [] s₁ H ⟨[.ref a], []⟩ [.ref a] [.ref a] _ _ rfl hr e0 (hb s₁ (.ref a)) (.cons rfl .nil) (hsp H hP hS)) fun r s' z => ?_
    rcases r with e | fl
    · exact z.elim
    rcases fl with _ | _ | _ | u
    case next => exact z.elim
    case brk => exact z.elim
    case cont => exact z.elim
    obtain ⟨v, H', os, bare, un, ok', rv', q⟩ := z
    cases (show v = .bl true from q)
    cases (show u = Value.bool true from rv')
    have kept : ∀ b o, b ≠ Pt → s₁.heap.get? b = some o → s'.heap.get? b = some o := fun b o n e => by
      cases q : H b with
      | none => exact un.keep b o e q (fun z => by cases z) (fun z => by cases z)
      | some t =>
        rcases hH b t q with z | ⟨rfl, _, rfl⟩
        · exact absurd z n
        · obtain ⟨g, _⟩ := ok' b _ (un.frzs b _ _ q)
          rw [ha] at e
          cases e
          exact g
    obtain ⟨more, gr⟩ := un.tbls Pt #[] hP
    have gr : s'.heap.get? Pt = some { cls := .none, data := .fields (#[] ++ more) } := ok' Pt _ gr
    refine ⟨rfl, ⟨fun b o e => ?_, fun b o e => ?_⟩, os, bare⟩
    · by_cases h : b = Pt
      · rw [h, tP] at e
        cases e
        rw [h]
        exact .inr (.inl ⟨(cd.tab tP).isCodeTable, rfl, #[], more, rfl, gr⟩)
      · exact .inl (kept b o h e)
    · by_cases h : b = Pt
      · rw [h]
        exact ⟨_, gr⟩
      · exact ⟨o, kept b o h e⟩
  cases hk : K.lookup a with
  | some o =>
    have e := KX a o hk
    rw [ha] at e
    cases e
    refine go (fun b => if b = Pt then some (.tbl #[]) else none) (if_pos rfl) (fun b u z => ?_) (.inr ⟨_, vs.toArray, _, hk, rfl, rfl, rfl, by rw [List.size_toArray, hi.length]; exact hl, by simpa using rv⟩)
    by_cases h : b = Pt
    · exact .inl h
    · cases (if_neg h).symm.trans z
  | none =>
    refine go (fun b => if b = Pt then some (.tbl #[]) else if b = a then some (.frz { cls := .type "list", data := .seq vs.toArray } (.lst (ns.map V.int))) else none) (if_pos rfl) (fun b u z => ?_) (.inl (.inr ⟨{ cls := .type "list", data := .seq vs.toArray }, (if_neg naP).trans (if_pos rfl)⟩))
    by_cases h : b = Pt
    · exact .inl h
    · have z := (if_neg h).symm.trans z
      by_cases h2 : b = a
      · exact .inr ⟨h2, hk, (Option.some.inj ((if_pos h2).symm.trans z)).symm⟩
      · cases (if_neg h2).symm.trans z
theorem walkGT {l : PySem.W.OpenLaw} {n k : Nat} {q : Program} {loose : List Str} {XP : (Str → Option Value) → Heap → Prop} {YP : World → Heap → Prop} {d : DefRec} {K : Params → PySem.W.Frag} {x : Str}
    (h1 : l.most = some n) (h2 : n ≤ sizeLine) (h3 : d.params.defaults = []) (h4 : Room k callerA) (h5 : ∀ (w : World) (h : Heap), YP w h → (K w.params).In h)
    (h6 : ∀ (w : World) (mg : Str → Option Value) (fa : Addr) (h : Heap), YP w h → XP mg h → (K w.params).In h → h.Ns mainGlobals mg → mg d.name = some (.ref fa) → ∃ (fd : FuncData) (sp : Sp) (c Pt : Addr), h.get? Pt = some { cls := .none, data := .fields #[] } ∧ (K w.params).lookup Pt = none ∧ PySem.W.CodeHd h c Pt ∧
      (∀ (s : Shared) (u : Value), BindsTo s fd ⟨[u], []⟩ [(x, u)]) ∧
      (∀ (H : Hp) (a : Addr) (ns : List Int), ns.length ≤ n → (∀ z ∈ ns, Builtin.Int.intBits z ≤ 1048576) → H Pt = some (.tbl #[]) → SqL (K w.params) H a (ns.map V.int) → sp [.ref a] H (fun v _ => v = .bl true) E0) ∧
      ∀ base : Heap, (K w.params).In base → base.Ns mainGlobals mg → TabB base mg c Pt → FnG l.prog w (K w.params) mg base k fa fd [x] sp) :
    PySem.W.WalkO q loose XP YP l.row.toRowW d [] (fun f vs => PySem.call f vs) := by
  refine Att.attach_callB h1 h3 fun w a0 a1 mg mb fa o pm cd doc a vs ns G Y b1 b2 b3 b4 b5 b6 b7 b8 b9 => ?_
  have X := h5 w _ Y
  obtain ⟨fd, sp, c, Pt, c1, c2, c3, c4, c5, c6⟩ := h6 w mg fa _ Y G.X X G.T.g b4
  exact law_callGT X G.T.g G.T.b G.T.builtins G.T.nolimit b9 c1 c2 c3 G.T.bmain b5 b6 (Nat.le_trans b7 h2) h4 c6 c4 fun H hP hS => c5 H a ns b7 b8 hP hS
end OGX
set_option Elab.async false
set_option linter.all false
set_option maxRecDepth 100000
set_option maxHeartbeats 4000000
namespace OG
open PySem PySem.Spec PyProof.Rows L2
section
variable {X : Cx} (K : PySem.W.Frag)
theorem pe_fldK {e : Expr} {f : Str} {pos : Pos} {ta : TE} (he : PE X e ta) (hb : attributeBase e f X.env (eval e X.env) = eval e X.env) (hK : X.K = K := by rfl) : PE X (.Attribute e f pos) (tFld K ta f) := hK ▸ pe_fld he hb
theorem pa_starK {e : Expr} {es : List Expr} {te : TE} {t : TA} {p : Pos} (he : PE X e te) (hr : PA X es t) (hK : X.K = K := by rfl) (hs : starEach (.Starred e p :: es) X.env = (true, eval e X.env) :: starEach es X.env := by rfl) : PA X (.Starred e p :: es) (StX.tStar K te t) := hK ▸ StX.pa_star he hr hs
theorem op_catAK (hK : X.K = K := by rfl) : OpR X (binaryOp .Add) (rCatA K) := hK ▸ op_catA
end
end OG
set_option Elab.async false
set_option linter.all false
set_option maxRecDepth 100000
set_option maxHeartbeats 8000000
namespace OG
open PySem PySem.Spec PyProof.Rows L2
/-- what of Book's methods stands in the text -/
structure TxtM (K : PySem.W.Frag) (mg : Str → Option Value) (T : Txt K mg) : Prop where
  exM : OexC K T.c_NoMark
  inM : PySem.W.findIn K (.ref T.c_NoMark) "__init__" = some (some (.ref T.f_GateError_init))
  noM : PySem.W.findIn K (.ref T.c_NoMark) "value" = some none
  exK : OexC K T.c_NoKind
  inK : PySem.W.findIn K (.ref T.c_NoKind) "__init__" = some (some (.ref T.f_GateError_init))
  noK : PySem.W.findIn K (.ref T.c_NoKind) "value" = some none
  exO : OexC K T.c_OtherKinds
  inO : PySem.W.findIn K (.ref T.c_OtherKinds) "__init__" = some (some (.ref T.f_GateError_init))
  noO : PySem.W.findIn K (.ref T.c_OtherKinds) "value" = some none
  xfO : XfC K T.c_OtherKinds
  ecO : ExcC K T.c_OtherKinds
  teO : PySem.W.exmOne K (.ref T.c_OtherKinds) (.ref T.c_GateError) = some true
  ktO : PySem.W.kitOne K (.ref T.c_OtherKinds) (.ref T.c_OtherKinds) = some true
  ct : PySem.W.findIn K (.ref T.c_Book) "__contains__" = some (some (.ref T.f_Book_contains))
  ctF : PySem.W.isFn K (.ref T.f_Book_contains) = true
  m_weight : Meth K T.c_Book "weight" T.f_Book_weight
  m_worth : Meth K T.c_Book "worth" T.f_Book_worth
theorem kit_own {K : PySem.W.Frag} {C : Addr} {b : Bool} {t : String} (h1 : PySem.W.isClsIn K C = true) (h2 : PySem.W.typeIn K (.ref C) = some (.type "type")) (h3 : PySem.W.subIn K (.type t) (.ref C) = some b) : PySem.W.kitOne K (.type t) (.ref C) = some b := by
  unfold PySem.W.kitOne
  rw [if_neg (by simp)]
  show (if ((PySem.W.clsIn K C).isSome && PySem.W.typeIn K (.ref C) == some (.type "type")) = true then PySem.W.subIn K (.type t) (.ref C) else none) = some b
  rw [show (PySem.W.clsIn K C).isSome = true from h1, h2, if_pos (by simp), h3]
theorem KvK.at {H : Hp} {k : Str} {zs : List Int} : ∀ {kv : List (Key × V)} {kw : List (Str × List Int)} {a : Nat}, KvK H kv kw → (kw.map (·.1)).Nodup → kw[a]? = some (k, zs) → ∃ t, valV kv (.inr k) = some (.ref t) ∧ H t = some (.tup (zs.map V.int))
  | _, _, a, .nil, _, h => by simp at h
  | p :: kv, q :: kw, a, .cons h r, nd, ha => by
    rw [List.map_cons, List.nodup_cons] at nd
    obtain ⟨e, t, et, ht⟩ := h
    cases a with
    | zero =>
      have e0 := Option.some.inj ha
      cases e0
      exact ⟨t, by rw [valV_pos e, et], ht⟩
    | succ a =>
      have ha : kw[a]? = some (k, zs) := ha
      obtain ⟨t', e1, e2⟩ := KvK.at (a := a) r nd.2 ha
      refine ⟨t', ?_, e2⟩
      rw [valV_neg (by rw [e]; exact k_ne fun z => nd.1 (by
        rw [z]
        exact List.mem_map.mpr ⟨_, List.mem_of_getElem? ha, rfl⟩))]
      exact e1
section
variable {P : Program} {w : World} {K : PySem.W.Frag} {mg : Str → Option Value} {base : Heap}
theorem valV_mem {ms : List (Str × Int)} {k : Str} {v : Int} (h : valV (kvM ms) (.inr k) = some (.int v)) : k ∈ ms.map (·.1) := by
  have e := has_key (kvM_keys ms) k
  rw [h] at e
  exact of_decide_eq_true e.symm
/-- the weight of a mark -/
def spWeight (T : Txt K mg) : Sp := fun vs H Q _ => ∃ (x : Addr) (mk : Str) (wt : Int) (z : Str) (b : Int) (mw : List (Str × Int)) (kw : List (Str × List Int)), vs = [.ref x, .str mk] ∧ mk.length ≤ 900000 ∧ ObjAt T H x z b mw kw ∧ valV (kvM mw) (.inr mk) = some (.int wt) ∧ Q (.int wt) H
theorem ok_Book_weight (T : Txt K mg) (XT : TxtX K mg T) (XM : TxtM K mg T) : FnOk P w K mg base (L2.CX P w) 3 T.f_Book_weight T.fd_Book_weight ["self", "mark"] (spWeight T) := by
  refine T.F_Book_weight.okX sc_Book_weight (fun vs H Q E h => ?_) (fun cdv A outer s H vs Q E hr h => ?_)
  · obtain ⟨x, mk, wt, z, b, mw, kw, rfl, _⟩ := h
    rfl
  · obtain ⟨x, mk, wt, z, b, mw, kw, rfl, hl, hX, hw, q⟩ := h
    refine ⟨_, (pss_cons (ps_if (pt_cmpR (OGX.op_notInOwn (ok_Book_contains T XT) (hr.mono (by decide)) XM.ct XM.ctF T.b_Book_contains passL) (pv 1) (pv 0) rfl) (pss_one (ps_raise rfl (takes_of rfl rfl rfl rfl) (pmk_oex XM.exM XM.inM XT.tyI (ok_GateError_init T) (hr.mono (by decide)) T.b_GateError_init .nil pass0 (by rfl) T.g_NoMark (pa_cons (pv 1) pa_nil)))) pss_nil)
  (pss_one (ps_ret (pe_dget (hu_of hr) (pe_fld (pv 0) rfl) (pv 1) (fun _ _ => rfl))))), ?_⟩
    obtain ⟨dx, t1, t2, a1, a2, fs, kv2, hx, _, f1, f2, f3, g1, f4, g2, f5, g3, f6, g4, g5, n1, n2⟩ := id hX
    have e : inM (.str mk) (mw.map (·.1)) = true := by
      unfold inM
      rw [inV_str, decide_eq_true (valV_mem hw)]
      rfl
    refine ⟨.str mk, rfl, .ref x, rfl, x, dx, fs, rfl, hx, x, .str mk, z, b, mw, kw, rfl, hl, hX, _, rfl, ?_⟩
    rw [e]
    refine ⟨false, rfl, iteF ?_⟩
    exact ⟨.ref x, rfl, x, T.c_Book, dx, fs, _, rfl, hx, XT.cl, XT.na5, f5, .str mk, rfl, a1, _, rfl, dget g3 hw, q⟩
/-- the worth of a road -/
def spWorth (T : Txt K mg) : Sp := fun vs H Q _ => ∃ (x : Addr) (k one oth : Str) (a i j : Nat) (zs : List Int) (v : Int) (z : Str) (b : Int) (mw : List (Str × Int)) (kw : List (Str × List Int)), vs = [.ref x, .str k, .str one, .str oth] ∧ one.length ≤ 900000 ∧ oth.length ≤ 900000 ∧ ObjAt T H x z b mw kw ∧
  (mw.map (·.1)).Nodup ∧ (kw.map (·.1)).Nodup ∧ kw[a]? = some (k, zs) ∧ (mw.map (·.1))[i]? = some one ∧ (mw.map (·.1))[j]? = some oth ∧ mw.length ≤ 4 ∧ zs[i * mw.length + j]? = some v ∧ Q (.int v) H
theorem ok_Book_worth (T : Txt K mg) (XT : TxtX K mg T) (XM : TxtM K mg T) : FnOk P w K mg base (L2.CX P w) 3 T.f_Book_worth T.fd_Book_worth ["self", "kind", "one", "other"] (spWorth T) := by
  refine T.F_Book_worth.okX sc_Book_worth (fun vs H Q E h => ?_) (fun cdv A outer s H vs Q E hr h => ?_)
  · obtain ⟨x, k, one, oth, a, i, j, zs, v, z, b, mw, kw, rfl, _⟩ := h
    rfl
  · obtain ⟨x, k, one, oth, a, i, j, zs, v, z, b, mw, kw, rfl, l1, l2, hX, nd1, nd2, hk, hi, hj, hm, hv, q⟩ := h
    refine ⟨_, (pss_cons (ps_if (PW.pt (pw_or (pt_not (pt_val (pe_callB call_isi (by rfl) T.n_isinstance (by decide +kernel) (pa_cons (pv 1) (pa_cons (pe_bltn (v := .ty "str") (by rfl) T.n_str (by decide +kernel) rfl) pa_nil))))) (pw_or1 (pt_cmpR op_notIn_seq (pv 1) (pe_fld (pv 0) rfl) rfl)))) (pss_one (ps_raise rfl (takes_of rfl rfl rfl rfl) (pmk_oex XM.exK XM.inK XT.tyI (ok_GateError_init T) (hr.mono (by decide)) T.b_GateError_init .nil pass0 (by rfl) T.g_NoKind (pa_cons (pv 1) pa_nil)))) pss_nil)
  (pss_cons (ps_if (pt_cmpR (OGX.op_notInOwn (ok_Book_contains T XT) (hr.mono (by decide)) XM.ct XM.ctF T.b_Book_contains passL) (pv 2) (pv 0) rfl) (pss_one (ps_raise rfl (takes_of rfl rfl rfl rfl) (pmk_oex XM.exM XM.inM XT.tyI (ok_GateError_init T) (hr.mono (by decide)) T.b_GateError_init .nil pass0 (by rfl) T.g_NoMark (pa_cons (pv 2) pa_nil)))) pss_nil)
  (pss_cons (ps_if (pt_cmpR (OGX.op_notInOwn (ok_Book_contains T XT) (hr.mono (by decide)) XM.ct XM.ctF T.b_Book_contains passL) (pv 3) (pv 0) rfl) (pss_one (ps_raise rfl (takes_of rfl rfl rfl rfl) (pmk_oex XM.exM XM.inM XT.tyI (ok_GateError_init T) (hr.mono (by decide)) T.b_GateError_init .nil pass0 (by rfl) T.g_NoMark (pa_cons (pv 3) pa_nil)))) pss_nil)
  (pss_cons (ps_set (i := 4) sc_Book_worth.nd rfl (Or.inl rfl) (pe_op op_add (pe_op op_mulW (OGX.pe_tupF PySem.F.plainAttrs_tuple PySem.F.slot_tuple_index PySem.F.type_tuple_index mt_tup_index (pe_fld (pv 0) rfl) (pa_cons (pv 2) pa_nil)) (pe_callB call_len_seq (by rfl) T.n_len PySem.boot_len (pa_cons (pe_fld (pv 0) rfl) pa_nil))) (OGX.pe_tupF PySem.F.plainAttrs_tuple PySem.F.slot_tuple_index PySem.F.type_tuple_index mt_tup_index (pe_fld (pv 0) rfl) (pa_cons (pv 3) pa_nil))))
  (pss_one (ps_ret (pe_ix ix_tup (pe_dget (hu_of hr) (pe_fld (pv 0) rfl) (pv 1) (fun _ _ => rfl)) (pv 4) (fun _ _ => rfl)))))))), ?_⟩
    obtain ⟨dx, t1, t2, a1, a2, fs, kv2, hx, _, f1, f2, f3, g1, f4, g2, f5, g3, f6, g4, g5, n1, n2⟩ := id hX
    have inm : ∀ {i : Nat} {y : Str}, (mw.map (·.1))[i]? = some y → inM (.str y) (mw.map (·.1)) = true := fun {i y} h => by
      unfold inM
      rw [inV_str, decide_eq_true (List.mem_of_getElem? h)]
      rfl
    refine ⟨.str k, rfl, _, _, _, _, true, rfl, .ty _, .base (.str k), kit_ty (by decide +kernel), ?_⟩
    refine ⟨true, rfl, ?_⟩
    refine iteF ?_
    have ek : inV (.str k) ((kw.map (·.1)).map V.str) = true := by rw [inV_str, decide_eq_true (List.mem_map.mpr ⟨_, List.mem_of_getElem? hk, rfl⟩)]
    refine ⟨.str k, rfl, .ref x, rfl, x, T.c_Book, dx, fs, _, rfl, hx, XT.cl, XT.na4, f4, t2, _, rfl, .inr g2.sq, rfl, flat_strs _, ?_⟩
    rw [ek]
    refine ⟨false, rfl, iteF ?_⟩
    refine ⟨.str one, rfl, .ref x, rfl, x, dx, fs, rfl, hx, x, .str one, z, b, mw, kw, rfl, l1, hX, _, rfl, ?_⟩
    rw [inm hi]
    refine ⟨false, rfl, iteF ?_⟩
    refine ⟨.str oth, rfl, .ref x, rfl, x, dx, fs, rfl, hx, x, .str oth, z, b, mw, kw, rfl, l2, hX, _, rfl, ?_⟩
    rw [inm hj]
    refine ⟨false, rfl, iteF ?_⟩
    have fst : ∀ {i : Nat} {y : Str}, (mw.map (·.1))[i]? = some y → ∀ m, m < i → (mw.map (·.1))[m]? ≠ some y := fun {i y} h m lt e => by
      have hm := (List.getElem?_eq_some_iff.mp e).1
      have hi := (List.getElem?_eq_some_iff.mp h).1
      have q : (mw.map (·.1))[m] = (mw.map (·.1))[i] := (List.getElem?_eq_some_iff.mp e).2.trans (List.getElem?_eq_some_iff.mp h).2.symm
      exact absurd ((List.getElem_inj nd1).mp q) (by omega)
    refine ⟨.ref x, rfl, x, T.c_Book, dx, fs, _, rfl, hx, XT.cl, XT.na3, f3, ?_⟩
    obtain ⟨o1, g1o, g1d⟩ := id g1
    have li : i < 4 := by
      have := (List.getElem?_eq_some_iff.mp hi).1
      rw [List.length_map] at this
      omega
    refine ⟨⟨t1, o1, _, rfl, g1o, g1d⟩, .str one, rfl, t1, _, one, i, rfl, rfl, g1.sq, hi, fst hi, ?_⟩
    refine ⟨.ref x, rfl, x, T.c_Book, dx, fs, _, rfl, hx, XT.cl, XT.na3, f3, t1, _, rfl, .inr g1.sq, ?_⟩
    rw [List.length_map, List.length_map]
    refine ⟨_, _, rfl, rfl, wide_mul (a := 20) (b := 4) (show (i : Int).natAbs < 2 ^ 20 by omega) (show (mw.length : Int).natAbs < 2 ^ 4 by omega) (by decide) (by decide) (by decide), ?_⟩
    refine ⟨.ref x, rfl, x, T.c_Book, dx, fs, _, rfl, hx, XT.cl, XT.na3, f3, ⟨t1, o1, _, rfl, g1o, g1d⟩, .str oth, rfl, t1, _, oth, j, rfl, rfl, g1.sq, hj, fst hj, ?_⟩
    refine ⟨_, _, rfl, rfl, ?_⟩
    obtain ⟨t, e1, e2⟩ := KvK.at g5 nd2 hk
    refine ⟨.ref x, rfl, x, T.c_Book, dx, fs, _, rfl, hx, XT.cl, XT.na6, f6, .str k, rfl, a2, _, rfl, dget g4 e1, _, rfl, t, _, ((i * mw.length + j : Nat) : Int), _, rfl, ?_, SqT.of e2, atI_nat (by rw [List.getElem?_map, hv]; rfl), q⟩
    show V.int ((i : Int) * (mw.length : Int) + (j : Int)) = V.int ((i * mw.length + j : Nat) : Int)
    rw [Int.natCast_add, Int.natCast_mul]
end
end OG
set_option Elab.async false
set_option linter.all false
set_option maxRecDepth 100000
set_option maxHeartbeats 8000000
namespace OG
open PySem PySem.Spec PyProof.Rows L2
theorem rgV_nat (n : Nat) : rgV 0 (n : Int) = (List.range n).map fun (i : Nat) => V.int (i : Int) := by
  unfold rgV
  rw [show ((n : Int) - 0).toNat = n by omega]
  exact List.map_congr_left fun i _ => by rw [Int.zero_add]
theorem valV_zip : ∀ {ms : List Str} {ws : List Int} {i : Nat} {mk : Str} {w : Int}, ms.Nodup → ms[i]? = some mk → ws[i]? = some w → valV (kvM (ms.zip ws)) (.inr mk) = some (.int w)
  | [], _, _, _, _, _, h, _ => by simp at h
  | _ :: _, [], _, _, _, _, _, h => by simp at h
  | m :: ms, v :: ws, 0, mk, w, _, h1, h2 => by
    cases Option.some.inj h1
    cases Option.some.inj h2
    exact valV_pos rfl
  | m :: ms, v :: ws, i + 1, mk, w, nd, h1, h2 => by
    rw [List.nodup_cons] at nd
    have h1 : ms[i]? = some mk := h1
    have e : kvM ((m :: ms).zip (v :: ws)) = (Sum.inr m, V.int v) :: kvM (ms.zip ws) := rfl
    rw [e, valV_neg (k_ne fun z => nd.1 (by rw [z]; exact List.mem_of_getElem? h1))]
    exact valV_zip nd.2 h1 h2
theorem flat_at {m c : Nat} (hc : c < m) : ∀ {M : List (List Int)} {a : Nat} {row : List Int}, (∀ r ∈ M, r.length = m) → M[a]? = some row → M.flatten[a * m + c]? = row[c]?
  | [], _, _, _, h => by simp at h
  | r :: M, 0, row, hr, h => by
    cases Option.some.inj h
    rw [List.flatten_cons, Nat.zero_mul, Nat.zero_add, List.getElem?_append_left (by rw [hr r List.mem_cons_self]; exact hc)]
  | r :: M, a + 1, row, hr, h => by
    have h : M[a]? = some row := h
    have l := hr r List.mem_cons_self
    rw [List.flatten_cons, List.getElem?_append_right (by rw [l, Nat.succ_mul]; omega), l, show (a + 1) * m + c - m = a * m + c by rw [Nat.succ_mul]; omega]
    exact flat_at hc (fun r hr' => hr r (List.mem_cons_of_mem _ hr')) h
theorem range_at {m j : Nat} {x : V} (h : ((List.range m).map fun (i : Nat) => V.int (i : Int))[j]? = some x) : j < m ∧ x = .int (j : Int) := by
  have hj := (List.getElem?_eq_some_iff.mp h).1
  rw [List.length_map, List.length_range] at hj
  rw [List.getElem?_map, List.getElem?_range hj] at h
  exact ⟨hj, (Option.some.inj h).symm⟩
end OG
set_option Elab.async false
set_option linter.all false
set_option maxRecDepth 100000
set_option maxHeartbeats 4000000
namespace OG
open PySem PySem.Spec PyProof.Rows L2
/-- rows of unlike places below n, in the order in which they are made -/
def ords (n : Nat) : Nat → List (List Nat)
  | 0 => [[]]
  | k + 1 => (ords n k).flatMap fun r => ((List.range n).filter fun a => !decide (a ∈ r)).map fun a => r ++ [a]
def wAt (ws : List Int) (i : Nat) : Int := ws.getD i 0
def mAt (M : List (List Int)) (i j : Nat) : Int := (M.getD i []).getD j 0
def at0 (r : List Nat) (i : Nat) : Nat := r.getD i 0
/-- the places of the row agree with the first places -/
def Agr (ws ws' : List Int) (Ms Ms' : List (List (List Int))) (r : List Nat) : Prop :=
  (∀ a, a < r.length → wAt ws a = wAt ws' (at0 r a)) ∧ ∀ k, k < Ms.length → ∀ a, a < r.length → ∀ b, b < r.length → mAt (Ms.getD k []) a b = mAt (Ms'.getD k []) (at0 r a) (at0 r b)
instance (ws ws' : List Int) (Ms Ms' : List (List (List Int))) (r : List Nat) : Decidable (Agr ws ws' Ms Ms' r) := by
  unfold Agr
  infer_instance
def agB (ws ws' : List Int) (Ms Ms' : List (List (List Int))) (r : List Nat) : Bool := decide (Agr ws ws' Ms Ms' r)
theorem at0_pre {r : List Nat} {a i : Nat} (h : i < r.length) : at0 (r ++ [a]) i = at0 r i := by
  unfold at0
  rw [List.getD_eq_getElem?_getD, List.getD_eq_getElem?_getD, List.getElem?_append_left h]
theorem at0_last {r : List Nat} {a : Nat} : at0 (r ++ [a]) r.length = a := by
  unfold at0
  rw [List.getD_eq_getElem?_getD, List.getElem?_append_right (Nat.le_refl _), Nat.sub_self]
  rfl
theorem agr_pre {ws ws' : List Int} {Ms Ms' : List (List (List Int))} {r : List Nat} {a : Nat} (h : Agr ws ws' Ms Ms' (r ++ [a])) : Agr ws ws' Ms Ms' r := by
  have l : (r ++ [a]).length = r.length + 1 := by rw [List.length_append]; rfl
  refine ⟨fun i hi => ?_, fun k hk i hi j hj => ?_⟩
  · have e := h.1 i (by omega)
    rwa [at0_pre hi] at e
  · have e := h.2 k hk i (by omega) j (by omega)
    rwa [at0_pre hi, at0_pre hj] at e
theorem agr_step {ws ws' : List Int} {Ms Ms' : List (List (List Int))} {r : List Nat} {a : Nat} (h : Agr ws ws' Ms Ms' r) (h1 : wAt ws r.length = wAt ws' a)
    (h2 : ∀ k, k < Ms.length → ∀ j, j < r.length + 1 → mAt (Ms.getD k []) r.length j = mAt (Ms'.getD k []) a (at0 (r ++ [a]) j) ∧ mAt (Ms.getD k []) j r.length = mAt (Ms'.getD k []) (at0 (r ++ [a]) j) a) : Agr ws ws' Ms Ms' (r ++ [a]) := by
  have l : (r ++ [a]).length = r.length + 1 := by rw [List.length_append]; rfl
  refine ⟨fun i hi => ?_, fun k hk i hi j hj => ?_⟩
  · rw [l] at hi
    by_cases e : i = r.length
    · rw [e, at0_last]
      exact h1
    · rw [at0_pre (by omega)]
      exact h.1 i (by omega)
  · rw [l] at hi hj
    by_cases e : i = r.length
    · rw [e, at0_last]
      exact (h2 k hk j hj).1
    · by_cases e2 : j = r.length
      · rw [e2, at0_last]
        exact (h2 k hk i hi).2
      · rw [at0_pre (by omega), at0_pre (by omega)]
        exact h.2 k hk i (by omega) j (by omega)
theorem filt_flat {α : Type} {p : α → Bool} {f : α → List α} (hf : ∀ r, p r = false → ∀ x ∈ f r, p x = false) : ∀ l : List α, ((l.filter p).flatMap f).filter p = (l.flatMap f).filter p
  | [] => rfl
  | r :: l => by
    by_cases h : p r = true
    · rw [List.filter_cons_of_pos h, List.flatMap_cons, List.flatMap_cons, List.filter_append, List.filter_append, filt_flat hf l]
    · rw [List.filter_cons_of_neg h, List.flatMap_cons, List.filter_append, filt_flat hf l]
      rw [show (f r).filter p = [] from List.filter_eq_nil_iff.mpr fun x hx => by
        rw [hf r (by simpa using h) x hx]
        decide]
      rfl
/-- the rows found after k turns -/
def fnd (ws ws' : List Int) (Ms Ms' : List (List (List Int))) (n k : Nat) : List (List Nat) := (ords n k).filter (agB ws ws' Ms Ms')
def ext1 (n : Nat) (r : List Nat) : List (List Nat) := ((List.range n).filter fun a => !decide (a ∈ r)).map fun a => r ++ [a]
theorem fnd_step (ws ws' : List Int) (Ms Ms' : List (List (List Int))) (n k : Nat) : ((fnd ws ws' Ms Ms' n k).flatMap (ext1 n)).filter (agB ws ws' Ms Ms') = fnd ws ws' Ms Ms' n (k + 1) := by
  unfold fnd
  refine filt_flat (fun r hr x hx => ?_) _
  obtain ⟨a, _, rfl⟩ := List.mem_map.mp hx
  exact decide_eq_false fun z => (of_decide_eq_false hr) (agr_pre z)
theorem ords_mem {n : Nat} : ∀ {k : Nat} {r : List Nat}, r ∈ ords n k → r.length = k ∧ r.Nodup ∧ ∀ a ∈ r, a < n
  | 0, r, h => by
    rw [List.mem_singleton.mp h]
    exact ⟨rfl, List.nodup_nil, fun a h => by cases h⟩
  | k + 1, r, h => by
    obtain ⟨r', h1, h2⟩ := List.mem_flatMap.mp h
    obtain ⟨a, h3, rfl⟩ := List.mem_map.mp h2
    obtain ⟨l, nd, lt⟩ := ords_mem h1
    obtain ⟨h4, h5⟩ := List.mem_filter.mp h3
    have h5 : a ∉ r' := by simpa using h5
    refine ⟨by rw [List.length_append, l]; rfl, ?_, fun b hb => ?_⟩
    · rw [List.nodup_append]
      refine ⟨nd, by simp, fun x hx y hy => ?_⟩
      rw [List.mem_singleton.mp hy]
      rintro rfl
      exact h5 hx
    · rcases List.mem_append.mp hb with hb | hb
      · exact lt b hb
      · rw [List.mem_singleton.mp hb]
        exact List.mem_range.mp h4
theorem ords_len {n : Nat} (h : n ≤ 4) : ∀ k, k ≤ 4 → (ords n k).length ≤ 100 := by
  have : ∀ n : Fin 5, ∀ k : Fin 5, (ords n.1 k.1).length ≤ 100 := by decide +kernel
  exact fun k hk => this ⟨n, by omega⟩ ⟨k, by omega⟩
theorem ords_id {n : Nat} (h : n ≤ 4) : List.range n ∈ ords n n := by
  have : ∀ n : Fin 5, List.range n.1 ∈ ords n.1 n.1 := by decide +kernel
  exact this ⟨n, by omega⟩
def via (s t : List Nat) : List Nat := t.map fun a => at0 s a
theorem ords_via {n : Nat} (h : n ≤ 4) {s : List Nat} (hs : s ∈ ords n n) : ((ords n n).map (via s)).Perm (ords n n) := by
  have : ∀ n : Fin 5, ∀ s ∈ ords n.1 n.1, (((ords n.1 n.1).map (via s)).isPerm (ords n.1 n.1)) = true := by decide +kernel
  exact List.isPerm_iff.mp (this ⟨n, by omega⟩ s hs)
theorem at0_via {s t : List Nat} {i : Nat} (h : i < t.length) : at0 (via s t) i = at0 s (at0 t i) := by
  unfold via at0
  rw [List.getD_eq_getElem?_getD, List.getElem?_map, List.getD_eq_getElem?_getD (l := t), List.getElem?_eq_getElem h]
  rfl
theorem at0_lt {n : Nat} {t : List Nat} (h : ∀ a ∈ t, a < n) {i : Nat} (hi : i < t.length) : at0 t i < n := by
  unfold at0
  rw [List.getD_eq_getElem?_getD, List.getElem?_eq_getElem hi]
  exact h _ (List.getElem_mem hi)
theorem agr_via {ws ws' : List Int} {Ms Ms' : List (List (List Int))} {n : Nat} {s t : List Nat} (hl : Ms'.length = Ms.length) (hs : s ∈ ords n n) (ht : t ∈ ords n n) (h : Agr ws ws' Ms Ms' s) : Agr ws ws' Ms Ms' (via s t) ↔ Agr ws ws Ms Ms t := by
  obtain ⟨s1, s2, s3⟩ := ords_mem hs
  obtain ⟨t1, t2, t3⟩ := ords_mem ht
  have lv : (via s t).length = t.length := List.length_map ..
  constructor
  · rintro ⟨a1, a2⟩
    refine ⟨fun i hi => ?_, fun k hk i hi j hj => ?_⟩
    · rw [a1 i (by omega), at0_via hi, ← h.1 _ (by have := at0_lt t3 hi; omega)]
    · rw [a2 k hk i (by omega) j (by omega), at0_via hi, at0_via hj, ← h.2 k hk _ (by have := at0_lt t3 hi; omega) _ (by have := at0_lt t3 hj; omega)]
  · rintro ⟨a1, a2⟩
    refine ⟨fun i hi => ?_, fun k hk i hi j hj => ?_⟩
    · rw [lv] at hi
      rw [a1 i (by omega), at0_via hi, ← h.1 _ (by have := at0_lt t3 hi; omega)]
    · rw [lv] at hi hj
      rw [a2 k hk i (by omega) j (by omega), at0_via hi, at0_via hj, ← h.2 k hk _ (by have := at0_lt t3 hi; omega) _ (by have := at0_lt t3 hj; omega)]
/-- if there is one renaming, there are as many as the own ones -/
theorem fnd_count {ws ws' : List Int} {Ms Ms' : List (List (List Int))} {n : Nat} (hn : n ≤ 4) (hl : Ms'.length = Ms.length) (h : fnd ws ws' Ms Ms' n n ≠ []) : (fnd ws ws Ms Ms n n).length = (fnd ws ws' Ms Ms' n n).length := by
  obtain ⟨s, hs⟩ := List.exists_mem_of_ne_nil _ h
  obtain ⟨hs, ha⟩ := List.mem_filter.mp hs
  have ha := of_decide_eq_true ha
  unfold fnd
  rw [← ((ords_via hn hs).filter (agB ws ws' Ms Ms')).length_eq, List.filter_map, List.length_map]
  congr 1
  refine List.filter_congr fun t ht => ?_
  exact decide_eq_decide.mpr (agr_via hl hs ht ha).symm
theorem agr_id (ws : List Int) (Ms : List (List (List Int))) (n : Nat) : Agr ws ws Ms Ms (List.range n) := by
  have e : ∀ i, i < (List.range n).length → at0 (List.range n) i = i := fun i hi => by
    unfold at0
    rw [List.getD_eq_getElem?_getD, List.getElem?_eq_getElem hi, List.getElem_range]
    rfl
  exact ⟨fun i hi => by rw [e i hi], fun k _ i hi j hj => by rw [e i hi, e j hj]⟩
/-! names -/
def nmAt (ms : List Str) (a : Nat) : Str := ms.getD a Str.empty
def nmRow (ms : List Str) (r : List Nat) : List Str := r.map (nmAt ms)
def dRow (ms : List Str) (r : List Nat) : PyData := .tuple ((nmRow ms r).map PyData.str)
def renX (m : Nat) (ms' : List Str) (ws ws' : List Int) (Ms Ms' : List (List (List Int))) (m' : Nat) : List PyData := if m = m' then (fnd ws ws' Ms Ms' m m).map (dRow ms') else []
theorem nmRow_id {ms : List Str} : nmRow ms (List.range ms.length) = ms := by
  unfold nmRow
  refine List.ext_getElem (by rw [List.length_map, List.length_range]) fun i h1 h2 => ?_
  rw [List.getElem_map, List.getElem_range]
  unfold nmAt
  rw [List.getD_eq_getElem?_getD, List.getElem?_eq_getElem h2]
  rfl
theorem nmAt_mem {ms : List Str} {a : Nat} (h : a < ms.length) : nmAt ms a ∈ ms := by
  unfold nmAt
  rw [List.getD_eq_getElem?_getD, List.getElem?_eq_getElem h]
  exact List.getElem_mem h
theorem nmAt_get {ms : List Str} {a : Nat} (h : a < ms.length) : ms[a]? = some (nmAt ms a) := by
  unfold nmAt
  rw [List.getD_eq_getElem?_getD, List.getElem?_eq_getElem h]
  rfl
theorem nmAt_inj {ms : List Str} (nd : ms.Nodup) {a b : Nat} (ha : a < ms.length) (hb : b < ms.length) (h : nmAt ms a = nmAt ms b) : a = b := by
  have ea := (List.getElem?_eq_some_iff.mp (nmAt_get ha)).2
  have eb := (List.getElem?_eq_some_iff.mp (nmAt_get hb)).2
  exact (List.getElem_inj nd).mp (ea.trans (h.trans eb.symm))
theorem nmRow_mem {ms : List Str} (nd : ms.Nodup) {r : List Nat} (hr : ∀ a ∈ r, a < ms.length) {a : Nat} (ha : a < ms.length) : nmAt ms a ∈ nmRow ms r ↔ a ∈ r := by
  unfold nmRow
  rw [List.mem_map]
  constructor
  · rintro ⟨b, hb, e⟩
    rwa [← nmAt_inj nd (hr b hb) ha e]
  · exact fun h => ⟨a, h, rfl⟩
theorem sortD_mem {ds : List PyData} {d : PyData} : d ∈ OGX.sortD ds ↔ d ∈ ds := List.mem_mergeSort
theorem sortD_len (ds : List PyData) : (OGX.sortD ds).length = ds.length := List.length_mergeSort ds
theorem alike_rows : ∀ {xs ys : List Str}, PySem.W.alikeAll (xs.map PyData.str) (ys.map PyData.str) = true
  | [], _ => by simp only [List.map_nil, PySem.W.alikeAll]
  | _ :: _, [] => by simp only [List.map_cons, List.map_nil, PySem.W.alikeAll]
  | _ :: xs, _ :: ys => by
    simp only [List.map_cons, PySem.W.alikeAll, PySem.W.alike, Bool.true_and]
    exact alike_rows
theorem renX_alike {m m' : Nat} {ms' : List Str} {ws ws' : List Int} {Ms Ms' : List (List (List Int))} : PySem.W.AllAlike (renX m ms' ws ws' Ms Ms' m') := by
  intro d hd e he
  unfold renX at hd he
  split at hd
  · obtain ⟨r, _, rfl⟩ := List.mem_map.mp hd
    rw [if_pos (by assumption)] at he
    obtain ⟨t, _, rfl⟩ := List.mem_map.mp he
    unfold dRow
    simp only [PySem.W.alike]
    exact alike_rows
  · cases hd
theorem fnd_sortable {m : Nat} {ms' : List Str} {ws ws' : List Int} {Ms Ms' : List (List (List Int))} (hm : 1 ≤ m) : PySem.W.Sortable ((fnd ws ws' Ms Ms' m m).map (dRow ms')) := by
  refine .inl fun d hd => ?_
  obtain ⟨r, hr, rfl⟩ := List.mem_map.mp hd
  have l := (ords_mem (List.mem_filter.mp hr).1).1
  cases r with
  | nil =>
    have : (0 : Nat) = m := l
    omega
  | cons a r => exact ⟨_, _, rfl⟩
end OG
set_option Elab.async false
set_option linter.all false
set_option maxRecDepth 100000
set_option maxHeartbeats 8000000
namespace OG
open PySem PySem.Spec PyProof.Rows L2
theorem for_zipTs {K : PySem.W.Frag} {a b : Addr} {xs ys : List V} {g : TG} {tb : TS} {D : Ends} {σ : L2.St} {H : Hp} (hl : ys.length ≤ xs.length) (Pv : Nat → L2.St → Hp → Prop) (h0 : Pv 0 σ H) (hq : ∀ i σ H, Pv i σ H → SqT K H a xs ∧ SqT K H b ys)
    (hs : ∀ (i : Nat) (x y : V) (T : Addr) (σ : L2.St) (H : Hp), xs[i]? = some x → ys[i]? = some y → Pv i σ H → H T = none → g (.ref T) σ (upd H T (.tup [x, y])) fun σ2 H2 => tb { D with nx := Pv (i + 1), ct := Pv (i + 1), bk := D.nx } σ2 H2) (hd : ∀ σ H, Pv ys.length σ H → D.nx σ H) :
    ∃ W : Nat → Nat → L2.St → Hp → Prop, (∃ m, W 0 m σ H) ∧ ∀ i m σ H, W i m σ H →
      ((RZ.ItzT K a b).stop i H ∧ D.nx σ H) ∨ ((RZ.ItzT K a b).go i H ∧ ∃ N : L2.St → Hp → Prop, (∀ σ' H', N σ' H' → ∃ m', m' < m ∧ W (i + 1) m' σ' H') ∧ ∀ v H', (RZ.ItzT K a b).yld i H v H' → g v σ H' fun σ2 H2 => tb { D with nx := N, ct := N, bk := D.nx } σ2 H2) := by
  refine ⟨fun i m σ H => m = ys.length - i ∧ i ≤ ys.length ∧ Pv i σ H, ⟨ys.length, rfl, Nat.zero_le _, h0⟩, ?_⟩
  rintro i m σ H ⟨rfl, hi, p⟩
  obtain ⟨qx, qy⟩ := hq i σ H p
  by_cases hlt : i < ys.length
  · have hx : xs[i]? = some xs[i] := List.getElem?_eq_getElem (by omega)
    have hy : ys[i]? = some ys[i] := List.getElem?_eq_getElem hlt
    refine .inr ⟨⟨xs, ys, _, _, qx, qy, hx, hy⟩, Pv (i + 1), fun σ' H' p' => ⟨ys.length - (i + 1), by omega, rfl, hlt, p'⟩, fun v H' y => ?_⟩
    obtain ⟨T, x', y', rfl, hT, rfl, f1, f2⟩ := y
    exact hs i x' y' T σ H (f1 xs qx) (f2 ys qy) p hT
  · have e : i = ys.length := by omega
    subst e
    exact .inl ⟨⟨xs, ys, qx, qy, Or.inr (Nat.le_refl _)⟩, hd σ H p⟩
/-- a Book of an own text -/
structure BO {K : PySem.W.Frag} {mg : Str → Option Value} (T : Txt K mg) (H : Hp) (x : Addr) (z : Str) (b : Int) (m : Nat) (ms ks : List Str) (ws : List Int) (Ms : List (List (List Int))) : Prop where
  obj : ObjAt T H x z b (ms.zip ws) (ks.zip (Ms.map List.flatten))
  ok : BkOk b m ms ws ks Ms
  mat : ∀ M ∈ Ms, MatOk b m M
theorem BO.same {K : PySem.W.Frag} {mg : Str → Option Value} {T : Txt K mg} {H H' : Hp} {x : Addr} {z : Str} {b : Int} {m : Nat} {ms ks : List Str} {ws : List Int} {Ms : List (List (List Int))} (h : BO T H x z b m ms ks ws Ms) (s : Same H H') : BO T H' x z b m ms ks ws Ms := ⟨h.obj.same s, h.ok, h.mat⟩
theorem wAt_get {ws : List Int} {i : Nat} (h : i < ws.length) : ws[i]? = some (wAt ws i) := by
  unfold wAt
  rw [List.getD_eq_getElem?_getD, List.getElem?_eq_getElem h]
  rfl
theorem mAt_get {b : Int} {m : Nat} {M : List (List Int)} (h : MatOk b m M) {i j : Nat} (hi : i < m) (hj : j < m) : M.flatten[i * m + j]? = some (mAt M i j) := by
  obtain ⟨h1, h2⟩ := h
  have hr : M[i]? = some M[i] := List.getElem?_eq_getElem (by omega)
  rw [flat_at hj (fun r hr => (h2 r hr).1) hr]
  unfold mAt
  rw [List.getD_eq_getElem?_getD, List.getD_eq_getElem?_getD, hr]
  have := (h2 _ (List.mem_of_getElem? hr)).1
  show M[i][j]? = some (M[i][j]?.getD 0)
  rw [List.getElem?_eq_getElem (by omega)]
  rfl
section
variable {P : Program} {w : World} {K : PySem.W.Frag} {mg : Str → Option Value} {base : Heap}
theorem other_made {T : Txt K mg} (XM : TxtM K mg T) {H : Hp} {y : V} {Qx : XK} (q : ∀ d H', Same H H' → H' d = some (.xd [("value", y)]) → Qx (.ref T.c_OtherKinds) (some d) H') :
    [y].length ≤ 1000 ∧ ∀ a, H a = none → spGateInit K (.ref a :: ([y] ++ [])) (upd H a (exo a T.c_OtherKinds none))
      (fun v H2 => v = .non ∧ ∃ (d : Addr) (fs : List (Str × V)), H2 a = some (exo a T.c_OtherKinds (some d)) ∧ H2 d = some (exd d fs) ∧ H d = none ∧ Qx (.ref T.c_OtherKinds) (some d) (upd (del H2 a) d (.xd fs))) (fun _ _ _ => False) := by
  refine ⟨by show 1 ≤ 1000; decide, fun a ha => ⟨a, T.c_OtherKinds, y, rfl, XM.exO, XM.noO, upd_same, fun dx hdx hne => ⟨rfl, dx, [("value", y)], upd_same, ?_, ?_, ?_⟩⟩⟩
  · rw [upd_ne hne, upd_same]
  · rw [upd_ne hne] at hdx
    exact hdx
  · exact q dx _ (raised_same ha hdx) upd_same
theorem nm_ok {z : Str} (h : IsNm z) : PyData.strOk z = true := by
  unfold PyData.strOk
  rw [Array.all_eq_true_iff_forall_mem]
  intro c hc
  have h1 := h.2.2 c (Array.mem_toList_iff.mpr hc)
  have h2 : ∀ c ∈ abc, c < 0x110000 := by decide +kernel
  exact decide_eq_true (h2 c h1)
theorem dep_strs : ∀ zs : List Str, PyData.depthAll (zs.map PyData.str) = 0
  | [] => by simp only [List.map_nil, PyData.depthAll]
  | z :: r => by
    simp only [List.map_cons, PyData.depthAll, PyData.depth, dep_strs r]
    rfl
theorem shp_strs {zs : List Str} (h : ∀ z ∈ zs, IsNm z) : SeqAt.shaped (.tuple (zs.map PyData.str)) = true := by
  unfold SeqAt.shaped
  rw [Bool.and_eq_true]
  refine ⟨?_, decide_eq_true ?_⟩
  · simp only [PyData.canLay0]
    exact lay_strs fun z hz => nm_ok (h z hz)
  · simp only [PyData.depth, dep_strs]
    decide
theorem eqv_strs {zs ys : List Str} : PyData.eqv (.tuple (zs.map PyData.str)) (.tuple (ys.map PyData.str)) = decide (zs = ys) := by
  simp only [PyData.eqv]
  induction zs generalizing ys with
  | nil =>
    cases ys with
    | nil => simp [PyData.eqvAll]
    | cons y ys => simp [PyData.eqvAll]
  | cons z zs ih =>
    cases ys with
    | nil => simp [PyData.eqvAll]
    | cons y ys =>
      simp only [List.map_cons, PyData.eqvAll, PyData.eqv, ih]
      by_cases e : z = y <;> simp [e]
/-- both of one sort, or OtherKinds -/
def spNeed (T : Txt K mg) : Sp := fun vs H Q E => ∃ (x y : Addr) (z z' : Str) (b b' : Int) (m m' : Nat) (ms ks ms' ks' : List Str) (ws ws' : List Int) (Ms Ms' : List (List (List Int))), vs = [.ref x, .ref y] ∧ BO T H x z b m ms ks ws Ms ∧ BO T H y z' b' m' ms' ks' ws' Ms' ∧
  ((b = b' ∧ ks = ks' ∧ Q .non H) ∨ (¬(b = b' ∧ ks = ks') ∧ ∀ (d : Addr) (H' : Hp), Same H H' → H' d = some (.xd [("value", .ref y)]) → E (.ref T.c_OtherKinds) (some d) H'))
theorem zipk {b : Int} {m : Nat} {ms ks : List Str} {ws : List Int} {Ms : List (List (List Int))} (ok : BkOk b m ms ws ks Ms) : (ms.zip ws).map (·.1) = ms ∧ (ks.zip (Ms.map List.flatten)).map (·.1) = ks ∧ (ms.zip ws).length = m := by
  have := ok.nm.len
  have := ok.wl
  have := ok.ml
  refine ⟨?_, ?_, ?_⟩
  · rw [List.map_fst_zip]
    omega
  · rw [List.map_fst_zip]
    rw [List.length_map]
    omega
  · rw [List.length_zip]
    omega
theorem ok_need_one_sort (T : Txt K mg) (XT : TxtX K mg T) (XM : TxtM K mg T) : FnOk P w K mg base (L2.CX P w) 4 T.f_need_one_sort T.fd_need_one_sort ["one", "other"] (spNeed T) := by
  refine T.F_need_one_sort.okX sc_need_one_sort (fun vs H Q E h => ?_) (fun cdv A outer s H vs Q E hr h => ?_)
  · obtain ⟨x, y, _, _, _, _, _, _, _, _, _, _, _, _, _, _, rfl, _⟩ := h
    rfl
  · obtain ⟨x, y, z, z', b, b', m, m', ms, ks, ms', ks', ws, ws', Ms, Ms', rfl, hX, hY, h⟩ := h
    refine ⟨_, (pss_one (ps_if (PW.pt (pw_or (pt_cmpR op_ne (pe_fld (pv 0) rfl) (pe_fld (pv 1) rfl) (nomark _)) (pw_or1 (pt_cmpR (op_neD hr.units) (pe_fld (pv 0) rfl) (pe_fld (pv 1) rfl) (nomark _))))) (pss_one (ps_raise rfl (takes_of rfl rfl rfl rfl) (pmk_oex XM.exO XM.inO XT.tyI (ok_GateError_init T) (hr.mono (by decide)) T.b_GateError_init .nil pass0 (by rfl) T.g_OtherKinds (pa_cons (pv 1) pa_nil)))) pss_nil)), ?_⟩
    obtain ⟨dx, t1, t2, a1, a2, fs, kv2, hx, _, f1, f2, f3, g1, f4, g2, f5, g3, f6, g4, g5, n1, n2⟩ := id hX.obj
    obtain ⟨dy, t1', t2', a1', a2', fs', kv2', hy, _, f1', f2', f3', g1', f4', g2', f5', g3', f6', g4', g5', n1', n2'⟩ := id hY.obj
    rw [(zipk hX.ok).2.1] at g2
    rw [(zipk hY.ok).2.1] at g2'
    have op : (cxOf (CX P w) P w K mg base ["one", "other"] "need_one_sort" (defScope s_need_one_sort) T.f_need_one_sort cdv A outer s H E).K = K := rfl
    refine ⟨.ref x, rfl, x, T.c_Book, dx, fs, _, rfl, hx, XT.cl, XT.na2, f2, .ref y, rfl, y, T.c_Book, dy, fs', _, rfl, hy, XT.cl, XT.na2, f2', rfl, ?_⟩
    rw [show decide (V.int b = V.int b') = decide (b = b') from decide_eq_decide.mpr ⟨V.int.inj, congrArg V.int⟩]
    by_cases e : b = b'
    case neg =>
      rw [decide_eq_false e]
      have hq : ∀ (d : Addr) (H' : Hp), Same H H' → H' d = some (.xd [("value", .ref y)]) → E (.ref T.c_OtherKinds) (some d) H' := by
        rcases h with ⟨h, _⟩ | ⟨_, h⟩
        · exact absurd h e
        · exact h
      refine ⟨_, rfl, iteT ?_⟩
      refine iteT ?_
      refine ⟨.ref y, rfl, ?_⟩
      exact other_made XM hq
    case pos =>
    rw [decide_eq_true e]
    refine ⟨_, rfl, iteF ?_⟩
    refine ⟨.ref x, rfl, x, T.c_Book, dx, fs, _, rfl, hx, XT.cl, XT.na4, f4, .ref y, rfl, y, T.c_Book, dy, fs', _, rfl, hy, XT.cl, XT.na4, f4', ?_⟩
    refine ⟨_, _, .tup g2.sq (dp_strs ks), .tup g2'.sq (dp_strs ks'), shp_strs hX.ok.nk.is, shp_strs hY.ok.nk.is, ?_⟩
    rw [eqv_strs]
    by_cases e2 : ks = ks'
    case neg =>
      rw [decide_eq_false e2]
      have hq : ∀ (d : Addr) (H' : Hp), Same H H' → H' d = some (.xd [("value", .ref y)]) → E (.ref T.c_OtherKinds) (some d) H' := by
        rcases h with ⟨_, h, _⟩ | ⟨_, h⟩
        · exact absurd h e2
        · exact h
      refine ⟨_, rfl, ?_⟩
      refine iteT ?_
      refine ⟨.ref y, rfl, ?_⟩
      exact other_made XM hq
    case pos =>
    rw [decide_eq_true e2]
    refine ⟨_, rfl, iteF ?_⟩
    rcases h with ⟨_, _, q⟩ | ⟨h, _⟩
    · exact q
    · exact absurd ⟨e, e2⟩ h
end
end OG
set_option Elab.async false
set_option linter.all false
set_option maxRecDepth 100000
set_option maxHeartbeats 8000000
namespace OG
open PySem PySem.Spec PyProof.Rows L2
section
variable {P : Program} {w : World} {K : PySem.W.Frag} {mg : Str → Option Value} {base : Heap}
/-- the last place of a row agrees -/
def spLast (T : Txt K mg) : Sp := fun vs H Q _ => ∃ (x y t : Addr) (z z' : Str) (b b' : Int) (m m' : Nat) (ms ks ms' : List Str) (ws ws' : List Int) (Ms Ms' : List (List (List Int))) (r : List Nat) (a : Nat), vs = [.ref x, .ref y, .ref t] ∧ BO T H x z b m ms ks ws Ms ∧ BO T H y z' b' m' ms' ks ws' Ms' ∧
  SqT K H t ((nmRow ms' (r ++ [a])).map V.str) ∧ r.length < m ∧ (∀ c ∈ r ++ [a], c < m') ∧ Agr ws ws' Ms Ms' r ∧ ∀ H', Same H H' → Q (.bl (agB ws ws' Ms Ms' (r ++ [a]))) H'
theorem ok_last_agrees (T : Txt K mg) (XT : TxtX K mg T) (XM : TxtM K mg T) : FnOk P w K mg base (L2.CX P w) 4 T.f_last_agrees T.fd_last_agrees ["one", "other", "names"] (spLast T) := by
  refine T.F_last_agrees.okX sc_last_agrees (fun vs H Q E h => ?_) (fun cdv A outer s H vs Q E hr h => ?_)
  · obtain ⟨x, y, t, _, _, _, _, _, _, _, _, _, _, _, _, _, _, _, rfl, _⟩ := h
    rfl
  · obtain ⟨x, y, t, z, z', b, b', m, m', ms, ks, ms', ws, ws', Ms, Ms', r, a, rfl, hX, hY, hT, hrm, hlt, hag, q⟩ := h
    refine ⟨_, (pss_cons (ps_set (i := 3) sc_last_agrees.nd rfl (Or.inl rfl) (pe_ix ix_tup (pv 2) (pe_un un_neg pe_int) (fun _ _ => rfl)))
  (pss_cons (ps_set (i := 4) sc_last_agrees.nd rfl (Or.inl rfl) (pe_ix ix_tup (pe_fld (pv 0) rfl) (pe_op op_sub (pe_callB call_len_seq (by rfl) T.n_len PySem.boot_len (pa_cons (pv 2) pa_nil)) pe_int) (fun _ _ => rfl)))
  (pss_cons (ps_if (pt_cmpR op_ne (pe_meth (pv 0) XT.cl XM.m_weight (ok_Book_weight T XT XM) (hr.mono (by decide)) T.b_Book_weight .nil passL (pa_cons (pv 4) pa_nil)) (pe_meth (pv 1) XT.cl XM.m_weight (ok_Book_weight T XT XM) (hr.mono (by decide)) T.b_Book_weight .nil passL (pa_cons (pv 3) pa_nil)) (nomark _)) (pss_one (ps_ret pe_bl)) pss_nil)
  (pss_cons (ps_for (passes_of rfl) rfl (pi_tup (pe_fld (pv 0) rfl)) (pg_name (i := 5) sc_last_agrees.nd rfl (Or.inl rfl)) (pss_one (ps_for (passes_of rfl) rfl (RZ.pi_zipA (by rfl) T.n_zip (pa_cons (pe_fld (pv 0) rfl) (pa_cons (pv 2) pa_nil))) (pg_tup (by rfl) (pgs_cons (pg_name (i := 6) sc_last_agrees.nd rfl (Or.inl rfl)) (pgs_cons (pg_name (i := 7) sc_last_agrees.nd rfl (Or.inl rfl)) pgs_nil))) (pss_cons (ps_if (pt_cmpR op_ne (pe_meth (pv 0) XT.cl XM.m_worth (ok_Book_worth T XT XM) (hr.mono (by decide)) T.b_Book_worth .nil passL (pa_cons (pv 5) (pa_cons (pv 4) (pa_cons (pv 6) pa_nil)))) (pe_meth (pv 1) XT.cl XM.m_worth (ok_Book_worth T XT XM) (hr.mono (by decide)) T.b_Book_worth .nil passL (pa_cons (pv 5) (pa_cons (pv 3) (pa_cons (pv 7) pa_nil)))) (nomark _)) (pss_one (ps_ret pe_bl)) pss_nil)
  (pss_one (ps_if (pt_cmpR op_ne (pe_meth (pv 0) XT.cl XM.m_worth (ok_Book_worth T XT XM) (hr.mono (by decide)) T.b_Book_worth .nil passL (pa_cons (pv 5) (pa_cons (pv 6) (pa_cons (pv 4) pa_nil)))) (pe_meth (pv 1) XT.cl XM.m_worth (ok_Book_worth T XT XM) (hr.mono (by decide)) T.b_Book_worth .nil passL (pa_cons (pv 5) (pa_cons (pv 7) (pa_cons (pv 3) pa_nil)))) (nomark _)) (pss_one (ps_ret pe_bl)) pss_nil))))))
  (pss_one (ps_ret pe_bl)))))), ?_⟩
    obtain ⟨dx, t1, t2, a1, a2, fs, kv2, hx, _, f1, f2, f3, g1, f4, g2, f5, g3, f6, g4, g5, n1, n2⟩ := id hX.obj
    obtain ⟨dy, t1', t2', a1', a2', fs', kv2', hy, _, f1', f2', f3', g1', f4', g2', f5', g3', f6', g4', g5', n1', n2'⟩ := id hY.obj
    obtain ⟨zk1, zk2, zk3⟩ := zipk hX.ok
    obtain ⟨zk1', zk2', zk3'⟩ := zipk hY.ok
    rw [zk1] at g1
    rw [zk2] at g2
    have hml := hX.ok.nm.len
    have hml' := hY.ok.nm.len
    have hm4 := hX.ok.m4
    have hm4' := hY.ok.m4
    have hwl := hX.ok.wl
    have hwl' := hY.ok.wl
    have lr : (nmRow ms' (r ++ [a])).length = r.length + 1 := by
      unfold nmRow
      rw [List.length_map, List.length_append]
      rfl
    have ha : a < m' := hlt a (List.mem_append.mpr (.inr List.mem_cons_self))
    have hla : ms'[a]? = some (nmAt ms' a) := nmAt_get (by omega)
    have hlr : ms[r.length]? = some (nmAt ms r.length) := nmAt_get (by omega)
    have nl : ∀ {y : Str} {i : Nat}, ms[i]? = some y → y.length ≤ 900000 := fun {y i} h => Nat.le_trans (hX.ok.nm.is y (List.mem_of_getElem? h)).2.1 (by decide)
    have nl' : ∀ {y : Str} {i : Nat}, ms'[i]? = some y → y.length ≤ 900000 := fun {y i} h => Nat.le_trans (hY.ok.nm.is y (List.mem_of_getElem? h)).2.1 (by decide)
    refine ⟨.ref t, rfl, (1 : Int), rfl, t, _, -1, .str (nmAt ms' a), rfl, rfl, hT, ?_, ?_⟩
    · rw [show (nmRow ms' (r ++ [a])).map V.str = (nmRow ms' r).map V.str ++ [V.str (nmAt ms' a)] by unfold nmRow; rw [List.map_append, List.map_append]; rfl]
      exact atI_last _ _
    refine ⟨.ref x, rfl, x, T.c_Book, dx, fs, _, rfl, hx, XT.cl, XT.na3, f3, .ref t, rfl, t, _, rfl, .inr hT, ?_⟩
    refine ⟨_, _, rfl, rfl, t1, _, ((r.length : Nat) : Int), .str (nmAt ms r.length), rfl, ?_, g1.sq, atI_nat (by rw [List.getElem?_map, hlr]; rfl), ?_⟩
    · show V.int _ = V.int _
      rw [List.length_map, lr]
      exact congrArg V.int (by omega)
    refine ⟨.ref x, rfl, x, dx, fs, rfl, hx, n1, .str (nmAt ms r.length), rfl, x, nmAt ms r.length, wAt ws r.length, z, b, _, _, rfl, nl hlr, hX.obj, valV_zip hX.ok.nm.nd hlr (wAt_get (by omega)), ?_⟩
    refine ⟨.ref y, rfl, y, dy, fs', rfl, hy, n1', .str (nmAt ms' a), rfl, y, nmAt ms' a, wAt ws' a, z', b', _, _, rfl, nl' hla, hY.obj, valV_zip hY.ok.nm.nd hla (wAt_get (by omega)), rfl, ?_⟩
    rw [show decide (V.int (wAt ws r.length) = V.int (wAt ws' a)) = decide (wAt ws r.length = wAt ws' a) from decide_eq_decide.mpr ⟨V.int.inj, congrArg V.int⟩]
    have ll : (r ++ [a]).length = r.length + 1 := by rw [List.length_append]; rfl
    have atr : at0 (r ++ [a]) r.length = a := at0_last
    by_cases ew : wAt ws r.length = wAt ws' a
    case neg =>
      rw [decide_eq_false ew]
      refine ⟨_, rfl, ?_⟩
      refine iteT ?_
      have e : agB ws ws' Ms Ms' (r ++ [a]) = false := decide_eq_false fun h => ew (by
        have e := h.1 r.length (by omega)
        rwa [atr] at e)
      have q := q H (Same.refl _)
      rw [e] at q
      exact q
    case pos =>
    rw [decide_eq_true ew]
    refine ⟨_, rfl, ?_⟩
    refine iteF ?_
    have hMl : Ms.length = ks.length := hX.ok.ml
    have hMl' : Ms'.length = ks.length := hY.ok.ml
    refine ⟨.ref x, rfl, x, T.c_Book, dx, fs, _, rfl, hx, XT.cl, XT.na4, f4, t2, rfl, ⟨_, g2.sq⟩, ?_⟩
    refine for_tup (K := K) (a := t2) (xs := ks.map V.str) (fun i σ H' => ∃ u5 u6 u7 : Option V, σ = [some (.ref x), some (.ref y), some (.ref t), some (.str (nmAt ms' a)), some (.str (nmAt ms r.length)), u5, u6, u7] ∧ Same H H' ∧
      ∀ k, k < i → ∀ j, j < r.length + 1 → mAt (Ms.getD k []) r.length j = mAt (Ms'.getD k []) a (at0 (r ++ [a]) j) ∧ mAt (Ms.getD k []) j r.length = mAt (Ms'.getD k []) (at0 (r ++ [a]) j) a)
      ⟨_, _, _, rfl, Same.refl _, fun k hk => absurd hk (Nat.not_lt_zero _)⟩ (fun i σ H' _ ⟨_, _, _, _, s, _⟩ => by
        obtain ⟨o, e, d⟩ := id g2
        exact MkT.sq ⟨o, s _ _ e, d⟩) ?_ ?_
    · rintro i u σ H1 hu ⟨u5, u6, u7, rfl, s1, hk⟩
      obtain ⟨kd, hkd, rfl⟩ := str_at hu
      have hi : i < ks.length := (List.getElem?_eq_some_iff.mp hkd).1
      have hX1 := hX.same s1
      have hY1 := hY.same s1
      have eM : Ms[i]? = some (Ms.getD i []) := by
        rw [List.getD_eq_getElem?_getD, List.getElem?_eq_getElem (by omega)]
        rfl
      have eM' : Ms'[i]? = some (Ms'.getD i []) := by
        rw [List.getD_eq_getElem?_getD, List.getElem?_eq_getElem (by omega)]
        rfl
      have mo := hX.mat _ (List.mem_of_getElem? eM)
      have mo' := hY.mat _ (List.mem_of_getElem? eM')
      have kz : (ks.zip (Ms.map List.flatten))[i]? = some (kd, (Ms.getD i []).flatten) := List.getElem?_zip_eq_some.mpr ⟨hkd, by rw [List.getElem?_map, eM]; rfl⟩
      have kz' : (ks.zip (Ms'.map List.flatten))[i]? = some (kd, (Ms'.getD i []).flatten) := List.getElem?_zip_eq_some.mpr ⟨hkd, by rw [List.getElem?_map, eM']; rfl⟩
      obtain ⟨M, hMe⟩ : ∃ M, M = Ms.getD i [] := ⟨_, rfl⟩
      obtain ⟨M', hMe'⟩ : ∃ M, M = Ms'.getD i [] := ⟨_, rfl⟩
      rw [← hMe] at mo kz eM
      rw [← hMe'] at mo' kz' eM'
      have hT1 := hT.ext s1
      have g1s : ∀ {H'}, Same H H' → SqT K H' t1 (ms.map V.str) := fun s => by
        obtain ⟨o, e, d⟩ := id g1
        exact MkT.sq ⟨o, s _ _ e, d⟩
      refine ⟨.ref x, rfl, x, T.c_Book, dx, fs, _, rfl, s1 _ _ hx, XT.cl, XT.na3, f3, .ref t, rfl, t1, t, ms.map V.str, (nmRow ms' (r ++ [a])).map V.str, rfl, .inr ⟨g1s s1, hT1, ?_⟩⟩
      refine for_zipTs (by rw [List.length_map, List.length_map, lr]; omega) (fun j σ H' => ∃ u6 u7 : Option V, σ = [some (.ref x), some (.ref y), some (.ref t), some (.str (nmAt ms' a)), some (.str (nmAt ms r.length)), some (.str kd), u6, u7] ∧ Same H1 H' ∧
        ∀ j', j' < j → mAt M r.length j' = mAt M' a (at0 (r ++ [a]) j') ∧ mAt M j' r.length = mAt M' (at0 (r ++ [a]) j') a)
        ⟨_, _, rfl, Same.refl _, fun k hk => absurd hk (Nat.not_lt_zero _)⟩ (fun j σ H' ⟨_, _, _, s, _⟩ => ⟨g1s (s1.trans s), hT1.ext s⟩) ?_ ?_
      · rintro j u v tp σ H2 hu hv ⟨u6, u7, rfl, s2, hj⟩ htp
        obtain ⟨ah, hah, rfl⟩ := str_at hu
        obtain ⟨it, hit, rfl⟩ := str_at hv
        have hjl : j < r.length + 1 := by
          have := (List.getElem?_eq_some_iff.mp hit).1
          omega
        have hjm : at0 (r ++ [a]) j < m' := at0_lt hlt (by omega)
        have eit : it = nmAt ms' (at0 (r ++ [a]) j) := by
          unfold nmRow at hit
          rw [List.getElem?_map, List.getElem?_eq_getElem (by omega)] at hit
          rw [← Option.some.inj hit]
          unfold at0
          rw [List.getD_eq_getElem?_getD, List.getElem?_eq_getElem (by omega)]
          rfl
        have hitm : ms'[at0 (r ++ [a]) j]? = some it := by
          rw [eit]
          exact nmAt_get (by omega)
        have s3 := same_new (o := .tup [.str ah, .str it]) htp
        have g3t : (upd H2 tp (.tup [.str ah, .str it])) tp = some (.tup [.str ah, .str it]) := upd_same
        generalize upd H2 tp (.tup [.str ah, .str it]) = H3 at *
        have s13 := s1.trans (s2.trans s3)
        have hX3 := hX.same s13
        have hY3 := hY.same s13
        have hx3 := s13 _ _ hx
        have hy3 := s13 _ _ hy
        refine ⟨tp, _, rfl, SqT.of g3t, rfl, _, _, rfl, _, _, rfl, rfl, ?_⟩
        refine ⟨.ref x, rfl, x, dx, fs, rfl, hx3, n2, .str kd, rfl, .str (nmAt ms r.length), rfl, .str ah, rfl, x, kd, nmAt ms r.length, ah, i, r.length, j, M.flatten, mAt M r.length j, z, b, _, _, rfl, nl hlr, nl hah, hX3.obj, by rw [zk1]; exact hX.ok.nm.nd, by rw [zk2]; exact hX.ok.nk.nd, kz, by rw [zk1]; exact hlr, by rw [zk1]; exact hah, by rw [zk3]; exact hm4, by rw [zk3]; exact mAt_get mo hrm (by omega), ?_⟩
        refine ⟨.ref y, rfl, y, dy, fs', rfl, hy3, n2', .str kd, rfl, .str (nmAt ms' a), rfl, .str it, rfl, y, kd, nmAt ms' a, it, i, a, at0 (r ++ [a]) j, M'.flatten, mAt M' a (at0 (r ++ [a]) j), z', b', _, _, rfl, nl' hla, nl' hitm, hY3.obj, by rw [zk1']; exact hY.ok.nm.nd, by rw [zk2']; exact hY.ok.nk.nd, kz', by rw [zk1']; exact hla, by rw [zk1']; exact hitm, by rw [zk3']; exact hm4', by rw [zk3']; exact mAt_get mo' ha hjm, rfl, ?_⟩
        rw [show ∀ p q : Int, decide (V.int p = V.int q) = decide (p = q) from fun p q => decide_eq_decide.mpr ⟨V.int.inj, congrArg V.int⟩]
        by_cases e1 : mAt M r.length j = mAt M' a (at0 (r ++ [a]) j)
        case neg =>
          rw [decide_eq_false e1]
          refine ⟨_, rfl, ?_⟩
          refine iteT ?_
          have e : agB ws ws' Ms Ms' (r ++ [a]) = false := decide_eq_false fun h => e1 (by
            have e := h.2 i (by omega) r.length (by omega) j (by omega)
            rwa [atr, ← hMe, ← hMe'] at e)
          have q := q H3 s13
          rw [e] at q
          exact q
        case pos =>
        rw [decide_eq_true e1]
        refine ⟨_, rfl, ?_⟩
        refine iteF ?_
        refine ⟨.ref x, rfl, x, dx, fs, rfl, hx3, n2, .str kd, rfl, .str ah, rfl, .str (nmAt ms r.length), rfl, x, kd, ah, nmAt ms r.length, i, j, r.length, M.flatten, mAt M j r.length, z, b, _, _, rfl, nl hah, nl hlr, hX3.obj, by rw [zk1]; exact hX.ok.nm.nd, by rw [zk2]; exact hX.ok.nk.nd, kz, by rw [zk1]; exact hah, by rw [zk1]; exact hlr, by rw [zk3]; exact hm4, by rw [zk3]; exact mAt_get mo (by omega) hrm, ?_⟩
        refine ⟨.ref y, rfl, y, dy, fs', rfl, hy3, n2', .str kd, rfl, .str it, rfl, .str (nmAt ms' a), rfl, y, kd, it, nmAt ms' a, i, at0 (r ++ [a]) j, a, M'.flatten, mAt M' (at0 (r ++ [a]) j) a, z', b', _, _, rfl, nl' hitm, nl' hla, hY3.obj, by rw [zk1']; exact hY.ok.nm.nd, by rw [zk2']; exact hY.ok.nk.nd, kz', by rw [zk1']; exact hitm, by rw [zk1']; exact hla, by rw [zk3']; exact hm4', by rw [zk3']; exact mAt_get mo' hjm ha, rfl, ?_⟩
        rw [show ∀ p q : Int, decide (V.int p = V.int q) = decide (p = q) from fun p q => decide_eq_decide.mpr ⟨V.int.inj, congrArg V.int⟩]
        by_cases e2 : mAt M j r.length = mAt M' (at0 (r ++ [a]) j) a
        case neg =>
          rw [decide_eq_false e2]
          refine ⟨_, rfl, ?_⟩
          refine iteT ?_
          have e : agB ws ws' Ms Ms' (r ++ [a]) = false := decide_eq_false fun h => e2 (by
            have e := h.2 i (by omega) j (by omega) r.length (by omega)
            rwa [atr, ← hMe, ← hMe'] at e)
          have q := q H3 s13
          rw [e] at q
          exact q
        case pos =>
        rw [decide_eq_true e2]
        refine ⟨_, rfl, ?_⟩
        refine iteF ?_
        refine ⟨_, _, rfl, s2.trans s3, fun j' hj' => ?_⟩
        by_cases ej : j' = j
        · rw [ej]
          exact ⟨e1, e2⟩
        · exact hj j' (by omega)
      · rintro σ H2 ⟨u6, u7, rfl, s2, hj⟩
        rw [List.length_map, lr] at hj
        refine ⟨_, _, _, rfl, s1.trans s2, fun k hk' j hj' => ?_⟩
        by_cases ek : k = i
        · rw [ek, ← hMe, ← hMe']
          exact hj j hj'
        · exact hk k (by omega) j hj'
    · rintro σ H' ⟨u5, u6, u7, rfl, s1, hk⟩
      rw [List.length_map] at hk
      have e : agB ws ws' Ms Ms' (r ++ [a]) = true := decide_eq_true (agr_step hag ew fun k hk' j hj => hk k (by omega) j hj)
      have q := q H' s1
      rw [e] at q
      exact q
end
end OG
set_option Elab.async false
set_option linter.all false
set_option maxRecDepth 100000
set_option maxHeartbeats 8000000
namespace OG
open PySem PySem.Spec PyProof.Rows L2
/-- rows of names at refs -/
def RowsAt (H : Hp) (ms : List Str) (vs : List V) (rs : List (List Nat)) : Prop := Paired (fun v r => ∃ t, v = .ref t ∧ H t = some (.tup ((nmRow ms r).map V.str))) vs rs
theorem RowsAt.same {H H' : Hp} {ms : List Str} {vs : List V} {rs : List (List Nat)} (h : RowsAt H ms vs rs) (s : Same H H') : RowsAt H' ms vs rs := by
  unfold RowsAt at *
  induction h with
  | nil => exact .nil
  | cons h _ ih =>
    obtain ⟨t, e, ht⟩ := h
    exact .cons ⟨t, e, s _ _ ht⟩ ih
theorem sortD_nil : OGX.sortD [] = [] := List.mergeSort_nil
mutual
theorem Dp.same {K : PySem.W.Frag} {H H' : Hp} (s : Same H H') : ∀ {v : V} {d : PyData}, Dp K H v d → Dp K H' v d
  | _, _, .non => .non
  | _, _, .bl b => .bl b
  | _, _, .int i => .int i
  | _, _, .str z => .str z
  | _, _, .lst h a => .lst (h.ext s) (DpAll.same s a)
  | _, _, .tup h a => .tup (h.ext s) (DpAll.same s a)
theorem DpAll.same {K : PySem.W.Frag} {H H' : Hp} (s : Same H H') : ∀ {vs : List V} {ds : List PyData}, DpAll K H vs ds → DpAll K H' vs ds
  | _, _, .nil => .nil
  | _, _, .cons h a => .cons (Dp.same s h) (DpAll.same s a)
end
theorem paired_at {α β : Type} {R : α → β → Prop} : ∀ {xs : List α} {ys : List β} {i : Nat} {x : α}, Paired R xs ys → xs[i]? = some x → ∃ y, ys[i]? = some y ∧ R x y
  | _, _, _, _, .nil, h => by simp at h
  | _, _, 0, _, .cons r _, h => ⟨_, rfl, Option.some.inj h ▸ r⟩
  | _, _, i + 1, _, .cons _ t, h => paired_at (i := i) t h
theorem paired_len {α β : Type} {R : α → β → Prop} : ∀ {xs : List α} {ys : List β}, Paired R xs ys → xs.length = ys.length
  | _, _, .nil => rfl
  | _, _, .cons _ t => congrArg (· + 1) (paired_len t)
theorem paired_snoc {α β : Type} {R : α → β → Prop} {x : α} {y : β} (h : R x y) : ∀ {xs : List α} {ys : List β}, Paired R xs ys → Paired R (xs ++ [x]) (ys ++ [y])
  | _, _, .nil => .cons h .nil
  | _, _, .cons r t => .cons r (paired_snoc h t)
theorem dp_rows {K : PySem.W.Frag} {H : Hp} {ms : List Str} : ∀ {vs : List V} {rs : List (List Nat)}, RowsAt H ms vs rs → DpAll K H vs (rs.map (dRow ms))
  | _, _, .nil => .nil
  | _, _, .cons ⟨t, e, ht⟩ r => by
    subst e
    exact .cons (.tup (SqT.of ht) (dp_strs _)) (dp_rows r)
theorem fnd_zero (ws ws' : List Int) (Ms Ms' : List (List (List Int))) (n : Nat) : fnd ws ws' Ms Ms' n 0 = [[]] := by
  unfold fnd ords
  have e : agB ws ws' Ms Ms' [] = true := decide_eq_true ⟨fun a h => absurd h (Nat.not_lt_zero _), fun k _ a h => absurd h (Nat.not_lt_zero _)⟩
  rw [List.filter_cons, if_pos e]
  rfl
theorem fnd_len {ws ws' : List Int} {Ms Ms' : List (List (List Int))} {n k : Nat} (hn : n ≤ 4) (hk : k ≤ 4) : (fnd ws ws' Ms Ms' n k).length ≤ 100 := Nat.le_trans (List.length_filter_le _ _) (ords_len hn k hk)
theorem ext1_len {n : Nat} (r : List Nat) : (ext1 n r).length ≤ n := by
  unfold ext1
  rw [List.length_map]
  exact Nat.le_trans (List.length_filter_le _ _) (by rw [List.length_range]; exact Nat.le_refl _)
theorem exflat_len {n : Nat} : ∀ l : List (List Nat), (l.flatMap (ext1 n)).length ≤ n * l.length
  | [] => Nat.le_refl _
  | r :: l => by
    rw [List.flatMap_cons, List.length_append, List.length_cons, Nat.mul_succ]
    have := ext1_len (n := n) r
    have := exflat_len (n := n) l
    omega
theorem out_list {K : PySem.W.Frag} {a : Addr} {xs : List V} {H0 : Hp} {Qd : Hp → Prop} {Body : V → Hp → (Hp → Prop) → Prop} (Pv : Nat → Hp → Prop) (h0 : Pv 0 H0) (hl : ∀ i H, i ≤ xs.length → Pv i H → SqL K H a xs)
    (hs : ∀ i x H, xs[i]? = some x → Pv i H → Body x H (Pv (i + 1))) (hd : ∀ H, Pv xs.length H → Qd H) :
    ∃ W : Nat → Nat → Hp → Prop, (∃ m, W 0 m H0) ∧ ∀ i m H, W i m H →
      ((Itl K a).stop i H ∧ Qd H) ∨ ((Itl K a).go i H ∧ ∃ Nx : Hp → Prop, (∀ H', Nx H' → ∃ m', m' < m ∧ W (i + 1) m' H') ∧ ∀ x H', (Itl K a).yld i H x H' → Body x H' Nx) := by
  refine ⟨fun i m H => m = xs.length - i ∧ i ≤ xs.length ∧ Pv i H, ⟨xs.length, by simp, Nat.zero_le _, h0⟩, ?_⟩
  rintro i m H ⟨rfl, hi, p⟩
  have q := hl i H hi p
  by_cases hlt : i < xs.length
  · refine .inr ⟨⟨xs, xs[i], q, by simp [hlt]⟩, Pv (i + 1), fun H' p' => ⟨xs.length - (i + 1), by omega, rfl, hlt, p'⟩, fun x H' y => ?_⟩
    obtain ⟨e, y⟩ := y
    subst e
    exact hs i x _ (y xs q) p
  · have e : i = xs.length := by omega
    subst e
    exact .inl ⟨⟨xs, q, Nat.le_refl _⟩, hd H p⟩
theorem out_tup {K : PySem.W.Frag} {a : Addr} {xs : List V} {H0 : Hp} {Qd : Hp → Prop} {Body : V → Hp → (Hp → Prop) → Prop} (Pv : Nat → Hp → Prop) (h0 : Pv 0 H0) (hl : ∀ i H, i ≤ xs.length → Pv i H → SqT K H a xs)
    (hs : ∀ i x H, xs[i]? = some x → Pv i H → Body x H (Pv (i + 1))) (hd : ∀ H, Pv xs.length H → Qd H) :
    ∃ W : Nat → Nat → Hp → Prop, (∃ m, W 0 m H0) ∧ ∀ i m H, W i m H →
      ((Itt K a).stop i H ∧ Qd H) ∨ ((Itt K a).go i H ∧ ∃ Nx : Hp → Prop, (∀ H', Nx H' → ∃ m', m' < m ∧ W (i + 1) m' H') ∧ ∀ x H', (Itt K a).yld i H x H' → Body x H' Nx) := by
  refine ⟨fun i m H => m = xs.length - i ∧ i ≤ xs.length ∧ Pv i H, ⟨xs.length, by simp, Nat.zero_le _, h0⟩, ?_⟩
  rintro i m H ⟨rfl, hi, p⟩
  have q := hl i H hi p
  by_cases hlt : i < xs.length
  · refine .inr ⟨⟨xs, xs[i], q, by simp [hlt]⟩, Pv (i + 1), fun H' p' => ⟨xs.length - (i + 1), by omega, rfl, hlt, p'⟩, fun x H' y => ?_⟩
    obtain ⟨e, y⟩ := y
    subst e
    exact hs i x _ (y xs q) p
  · have e : i = xs.length := by omega
    subst e
    exact .inl ⟨⟨xs, q, Nat.le_refl _⟩, hd H p⟩
theorem RowsAt.keep {H H' : Hp} {ms : List Str} {vs : List V} {rs : List (List Nat)} (h : RowsAt H ms vs rs) (s : ∀ t xs, H t = some (.tup xs) → H' t = some (.tup xs)) : RowsAt H' ms vs rs := by
  unfold RowsAt at *
  induction h with
  | nil => exact .nil
  | cons h _ ih =>
    obtain ⟨t, e, ht⟩ := h
    exact .cons ⟨t, e, s _ _ ht⟩ ih
theorem fr_pos {r : List Nat} {j : Nat} (h : j ∉ r) : (((List.range (j + 1)).filter fun a => !decide (a ∈ r)).map fun a => r ++ [a]) = (((List.range j).filter fun a => !decide (a ∈ r)).map fun a => r ++ [a]) ++ [r ++ [j]] := by
  rw [List.range_succ, List.filter_append, List.filter_cons, if_pos (by rw [decide_eq_false h]; rfl), List.map_append]
  rfl
theorem fr_neg {r : List Nat} {j : Nat} (h : j ∈ r) : ((List.range (j + 1)).filter fun a => !decide (a ∈ r)) = ((List.range j).filter fun a => !decide (a ∈ r)) := by
  rw [List.range_succ, List.filter_append, List.filter_cons, if_neg (by rw [decide_eq_true h]; decide)]
  exact List.append_nil _
section
variable {P : Program} {w : World} {K : PySem.W.Frag} {mg : Str → Option Value} {base : Heap}
def spRens (T : Txt K mg) : Sp := fun vs H Q E => ∃ (x y : Addr) (z z' : Str) (b b' : Int) (m m' : Nat) (ms ks ms' ks' : List Str) (ws ws' : List Int) (Ms Ms' : List (List (List Int))), vs = [.ref x, .ref y] ∧ BO T H x z b m ms ks ws Ms ∧ BO T H y z' b' m' ms' ks' ws' Ms' ∧
  ((b = b' ∧ ks = ks' ∧ ∀ (t : Addr) (H' : Hp), Same H H' → Dp K H' (.ref t) (.tuple (OGX.sortD (renX m ms' ws ws' Ms Ms' m'))) → Q (.ref t) H') ∨ (¬(b = b' ∧ ks = ks') ∧ ∀ (d : Addr) (H' : Hp), Same H H' → H' d = some (.xd [("value", .ref y)]) → E (.ref T.c_OtherKinds) (some d) H'))
theorem ok_renamings (T : Txt K mg) (XT : TxtX K mg T) (XM : TxtM K mg T) : FnOk P w K mg base (L2.CX P w) 6 T.f_renamings T.fd_renamings ["one", "other"] (spRens T) := by
  refine T.F_renamings.okX sc_renamings (fun vs H Q E h => ?_) (fun cdv A outer s H vs Q E hr h => ?_)
  · obtain ⟨x, y, _, _, _, _, _, _, _, _, _, _, _, _, _, _, rfl, _⟩ := h
    rfl
  · obtain ⟨x, y, z, z', b, b', m, m', ms, ks, ms', ks', ws, ws', Ms, Ms', rfl, hX, hY, h⟩ := h
    refine ⟨_, (pss_cons (ps_expr (pe_call (ok_need_one_sort T XT XM) (hr.mono (by decide)) (by rfl) T.g_need_one_sort T.F_need_one_sort.kp T.b_need_one_sort .nil (passes_call (takes_of rfl rfl rfl rfl) (fun _ _ _ _ h => h)) (pa_cons (pv 0) (pa_cons (pv 1) pa_nil))))
  (pss_cons (ps_if (pt_cmpR op_ne (pe_callB call_len_seq (by rfl) T.n_len PySem.boot_len (pa_cons (pe_fld (pv 0) rfl) pa_nil)) (pe_callB call_len_seq (by rfl) T.n_len PySem.boot_len (pa_cons (pe_fld (pv 1) rfl) pa_nil)) (nomark _)) (pss_one (ps_ret (pe_tup pa_nil))) pss_nil)
  (pss_cons (ps_set (i := 2) sc_renamings.nd rfl (Or.inl rfl) (pe_lst (pa_cons (pe_tup pa_nil) pa_nil)))
  (pss_cons (ps_for (passes_of rfl) rfl (pi_tup (pe_fld (pv 0) rfl)) (pg_name (i := 3) sc_renamings.nd rfl (Or.inl rfl)) (pss_cons (ps_setLc2 (i := 4) (own := [("names", 5), ("name", 6)]) (vs1 := [6]) (g := gName 5) (g1 := gName 6) (by rfl) sc_renamings.nd rfl rfl (sw_true rfl rfl rfl (by decide +kernel)) (pi_list (pv 2)) (blkOk_by (own := [("names", 5), ("name", 6)]) (by rfl)) (by decide) (fun _ _ _ _ _ => (pg_name (i := 5) sc_renamings.nd rfl (Or.inl rfl))) (fun _ _ _ _ _ => pts_nil) (fun _ _ _ _ _ => (pi_tupK K (pe_fldK K (pv 1) rfl))) (fun _ _ _ _ _ => (pg_name (i := 6) sc_renamings.nd rfl (Or.inl rfl))) (fun _ _ _ _ _ => (pts_one (pt_cmpR (op_notIn_seqK K) (pv 6) (pv 5) rfl))) (fun _ _ _ _ _ => (pe_tup (pa_starK K (pv 5) (pa_cons (pv 6) pa_nil)))))
  (pss_one (ps_setLc (i := 2) (own := [("names", 5)]) (g := gName 5) (by rfl) sc_renamings.nd rfl rfl (sw_true rfl rfl rfl (by decide +kernel)) (pi_list (pv 4)) (blkOk_by (own := [("names", 5)]) (by rfl)) (fun _ _ _ _ _ => (pg_name (i := 5) sc_renamings.nd rfl (Or.inl rfl))) (fun _ _ _ _ _ => (pts_one (pt_val (pe_call (ok_last_agrees T XT XM) (hr.mono (by decide)) (by rfl) T.g_last_agrees T.F_last_agrees.kp T.b_last_agrees .nil passL (pa_cons (pv 0) (pa_cons (pv 1) (pa_cons (pv 5) pa_nil))))))) (fun _ _ _ _ _ => (pv 5))))))
  (pss_one (ps_ret (pe_callTy call_tuple_of (by rfl) T.n_tuple (by decide +kernel) (pa_cons (pe_callB (OGX.cr_sortD hr.units) (by rfl) T.n_sorted (by decide +kernel) (pa_cons (pv 2) pa_nil)) pa_nil)))))))), ?_⟩
    refine ⟨.ref x, rfl, .ref y, rfl, x, y, z, z', b, b', m, m', ms, ks, ms', ks', ws, ws', Ms, Ms', rfl, hX, hY, ?_⟩
    rcases h with ⟨rfl, rfl, q⟩ | ⟨hn, q⟩
    case inr => exact .inr ⟨hn, q⟩
    refine .inl ⟨rfl, rfl, ?_⟩
    obtain ⟨dx, t1, t2, a1, a2, fs, kv2, hx, _, f1, f2, f3, g1, f4, g2, f5, g3, f6, g4, g5, n1, n2⟩ := id hX.obj
    obtain ⟨dy, t1', t2', a1', a2', fs', kv2', hy, _, f1', f2', f3', g1', f4', g2', f5', g3', f6', g4', g5', n1', n2'⟩ := id hY.obj
    obtain ⟨zk1, zk2, zk3⟩ := zipk hX.ok
    obtain ⟨zk1', zk2', zk3'⟩ := zipk hY.ok
    rw [zk1] at g1
    rw [zk1'] at g1'
    have hml := hX.ok.nm.len
    have hml' := hY.ok.nm.len
    have hm4 := hX.ok.m4
    have hm1 := hX.ok.m1
    have hm4' := hY.ok.m4
    refine ⟨.ref x, rfl, x, T.c_Book, dx, fs, _, rfl, hx, XT.cl, XT.na3, f3, t1, _, rfl, .inr g1.sq, ?_⟩
    refine ⟨.ref y, rfl, y, T.c_Book, dy, fs', _, rfl, hy, XT.cl, XT.na3, f3', t1', _, rfl, .inr g1'.sq, rfl, ?_⟩
    rw [List.length_map, List.length_map, hml, hml', show decide (V.int (m : Int) = V.int (m' : Int)) = decide (m = m') from decide_eq_decide.mpr ⟨fun h => by have := V.int.inj h; omega, fun h => by rw [h]⟩]
    by_cases em : m = m'
    case neg =>
      rw [decide_eq_false em]
      refine ⟨_, rfl, ?_⟩
      refine iteT ?_
      refine ⟨Nat.zero_le _, fun t ht => ?_⟩
      refine q t _ (same_new ht) ?_
      unfold renX
      rw [if_neg em]
      rw [sortD_nil]
      exact .tup (SqT.of upd_same) .nil
    case pos =>
    rw [decide_eq_true em]
    refine ⟨_, rfl, ?_⟩
    refine iteF ?_
    subst em
    have mk1 : ∀ {H'}, Same H H' → SqT K H' t1 (ms.map V.str) := fun s => by
      obtain ⟨o, e, d⟩ := id g1
      exact MkT.sq ⟨o, s _ _ e, d⟩
    have mk1' : ∀ {H'}, Same H H' → SqT K H' t1' (ms'.map V.str) := fun s => by
      obtain ⟨o, e, d⟩ := id g1'
      exact MkT.sq ⟨o, s _ _ e, d⟩
    refine ⟨Nat.zero_le _, fun t0 ht0 => ⟨Nat.le_trans (show 1 ≤ 1000 by decide) (by decide), fun f0 hf0 => ?_⟩⟩
    have s0 := (same_new (o := .tup []) ht0).trans (same_new (o := .lst [.ref t0]) hf0)
    have gt0 := same_new (o := .lst [.ref t0]) hf0 _ _ (upd_same (H := H) (a := t0) (o := .tup []))
    have gf0 : (upd (upd H t0 (.tup [])) f0 (.lst [.ref t0])) f0 = some (.lst [.ref t0]) := upd_same
    generalize upd (upd H t0 (.tup [])) f0 (.lst [.ref t0]) = H1 at *
    refine ⟨.ref x, rfl, x, T.c_Book, dx, fs, _, rfl, s0 _ _ hx, XT.cl, XT.na3, f3, t1, rfl, ⟨_, mk1 s0⟩, ?_⟩
    refine for_tup (K := K) (a := t1) (xs := ms.map V.str) (fun i σ H' => ∃ (f : Addr) (fv : List V) (u3 u4 : Option V), σ = [some (.ref x), some (.ref y), some (.ref f), u3, u4, none, none] ∧ Same H1 H' ∧ H' f = some (.lst fv) ∧ RowsAt H' ms' fv (fnd ws ws' Ms Ms' m i))
      ⟨f0, [.ref t0], _, _, rfl, Same.refl _, gf0, by rw [fnd_zero]; exact .cons ⟨t0, rfl, gt0⟩ .nil⟩ (fun i σ H' _ ⟨_, _, _, _, _, s, _⟩ => mk1 (s0.trans s)) ?_ ?_
    · rintro i u σ H2 hu ⟨f, fv, u3, u4, rfl, s2, hf, hR⟩
      have hi : i < m := by
        have := (List.getElem?_eq_some_iff.mp hu).1
        rw [List.length_map] at this
        omega
      refine ⟨.ref f, rfl, f, rfl, ⟨_, SqL.of hf⟩, fun D hD => ?_⟩
      have nD : ∀ {b o}, H2 b = some o → b ≠ D := fun e z => by
        rw [z, hD] at e
        cases e
      obtain ⟨L, hL⟩ : ∃ L, L = fnd ws ws' Ms Ms' m i := ⟨_, rfl⟩
      rw [← hL] at hR
      have hlL : L.length ≤ 100 := by
        rw [hL]
        exact fnd_len hm4 (by omega)
      have hLm : ∀ r ∈ L, r.length = i ∧ r.Nodup ∧ (∀ a ∈ r, a < m) ∧ Agr ws ws' Ms Ms' r := fun r hr => by
        rw [hL] at hr
        obtain ⟨h1, h2⟩ := List.mem_filter.mp hr
        obtain ⟨h3, h4, h5⟩ := ords_mem h1
        exact ⟨h3, h4, h5, of_decide_eq_true h2⟩
      refine out_list (xs := fv) (fun k H' => Same H2 H' ∧ ∃ lv, H' D = some (.lst lv) ∧ RowsAt H' ms' lv ((L.take k).flatMap (ext1 m))) ⟨same_new hD, [], upd_same, .nil⟩ (fun k H' _ ⟨s, _⟩ => SqL.of (s _ _ hf)) ?_ ?_
      · rintro k v H3 hv ⟨s3, lv, hlv, hRl⟩
        obtain ⟨r, hr, tr, rfl, htr⟩ := paired_at hR hv
        obtain ⟨r1, r2, r3, r4⟩ := hLm r (List.mem_of_getElem? hr)
        refine ⟨rfl, ?_⟩
        refine ⟨.ref y, rfl, y, T.c_Book, dy, fs', _, rfl, s3 _ _ (s2 _ _ (s0 _ _ hy)), XT.cl, XT.na3, f3', t1', rfl, ⟨_, mk1' ((s0.trans s2).trans s3)⟩, ?_⟩
        refine out_tup (xs := ms'.map V.str) (fun j H' => Same H2 H' ∧ ∃ lv, H' D = some (.lst lv) ∧ RowsAt H' ms' lv ((L.take k).flatMap (ext1 m) ++ ((List.range j).filter fun a => !decide (a ∈ r)).map fun a => r ++ [a])) ⟨s3, lv, hlv, by rw [List.range_zero]; show RowsAt H3 ms' lv ((L.take k).flatMap (ext1 m) ++ []); rw [List.append_nil]; exact hRl⟩ (fun j H' _ ⟨s, _⟩ => mk1' ((s0.trans s2).trans s)) ?_ ?_
        · rintro j v H4 hv2 ⟨s4, lv, hlv, hRl⟩
          obtain ⟨nmj, hnj, rfl⟩ := str_at hv2
          have hjm : j < m := by
            have := (List.getElem?_eq_some_iff.mp hnj).1
            omega
          have enj : nmj = nmAt ms' j := Option.some.inj (hnj.symm.trans (nmAt_get (by omega)))
          refine ⟨rfl, ?_⟩
          have htr4 := s4 _ _ htr
          refine ⟨.str nmj, rfl, .ref tr, rfl, tr, _, rfl, .inr (SqT.of htr4), rfl, flat_strs _, ?_⟩
          have ein : inV (.str nmj) ((nmRow ms' r).map V.str) = decide (j ∈ r) := by
            rw [inV_str, enj]
            exact decide_eq_decide.mpr (nmRow_mem hY.ok.nm.nd (fun a ha => by rw [hml']; exact r3 a ha) (by omega))
          rw [ein]
          refine ⟨_, rfl, ?_⟩
          by_cases hc : j ∈ r
          case pos =>
            rw [decide_eq_true hc]
            refine iteF ⟨s4, lv, hlv, ?_⟩
            rw [fr_neg hc]
            exact hRl
          case neg =>
            rw [decide_eq_false hc]
            refine iteT ?_
            have lenr : (nmRow ms' r).length = i := by
              unfold nmRow
              rw [List.length_map, r1]
            refine ⟨.ref tr, rfl, tr, _, rfl, .inl (SqT.of htr4), .str nmj, rfl, ?_⟩
            refine ⟨Nat.le_trans (show _ ≤ 1000 by rw [List.length_append, List.length_map, lenr]; show i + 1 ≤ 1000; omega) (by decide), fun t ht => ?_⟩
            have nt : t ≠ D := fun z => by
              rw [z, hlv] at ht
              cases ht
            refine ⟨lv, by rw [upd_ne (Ne.symm nt)]; exact hlv, ?_, fun b o e => ?_, lv ++ [.ref t], upd_same, ?_⟩
            · rw [paired_len hRl]
              have h1 := exflat_len (n := m) (L.take k)
              have h2 : (((List.range j).filter fun a => !decide (a ∈ r)).map fun a => r ++ [a]).length ≤ j := by
                rw [List.length_map]
                exact Nat.le_trans (List.length_filter_le _ _) (by rw [List.length_range]; exact Nat.le_refl _)
              have h3 : m * (L.take k).length ≤ 4 * 100 := Nat.mul_le_mul hm4 (by rw [List.length_take]; omega)
              rw [List.length_append]
              exact small1000 (by omega)
            · rw [upd_ne (nD e), upd_ne (ne_of_none (s4 _ _ e) ht)]
              exact s4 _ _ e
            · rw [fr_pos hc, ← List.append_assoc]
              have k1 : RowsAt (upd (upd H4 t (.tup ((nmRow ms' r).map V.str ++ [.str nmj]))) D (.lst (lv ++ [.ref t]))) ms' lv ((L.take k).flatMap (ext1 m) ++ ((List.range j).filter fun a => !decide (a ∈ r)).map fun a => r ++ [a]) := hRl.keep fun t' xs e => by
                rw [upd_ne (fun z => by rw [z, hlv] at e; cases e), upd_ne (ne_of_none e ht)]
                exact e
              refine paired_snoc ⟨t, rfl, ?_⟩ k1
              rw [upd_ne nt, upd_same, enj]
              unfold nmRow
              rw [List.map_append, List.map_append]
              rfl
        · rintro H4 ⟨s4, lv, hlv, hRl⟩
          refine ⟨s4, lv, hlv, ?_⟩
          rw [List.length_map, hml'] at hRl
          rw [take_more hr, List.flatMap_append, List.flatMap_singleton]
          exact hRl
      · rintro H3 ⟨s3, lv, hlv, hRl⟩
        rw [paired_len hR, List.take_length] at hRl
        have hLL := fnd_step ws ws' Ms Ms' m i
        rw [← hL] at hLL
        have hLX : ∀ p ∈ L.flatMap (ext1 m), ∃ r a, p = r ++ [a] ∧ r ∈ L ∧ a ∉ r ∧ a < m := fun p hp => by
          obtain ⟨r, hr, hp⟩ := List.mem_flatMap.mp hp
          obtain ⟨a, ha, rfl⟩ := List.mem_map.mp hp
          obtain ⟨h1, h2⟩ := List.mem_filter.mp ha
          exact ⟨r, a, rfl, hr, by simpa using h2, List.mem_range.mp h1⟩
        have hXl : (L.flatMap (ext1 m)).length ≤ 400 := Nat.le_trans (exflat_len L) (Nat.mul_le_mul hm4 hlL)
        generalize L.flatMap (ext1 m) = X at *
        refine ⟨.ref D, rfl, D, rfl, ⟨_, SqL.of hlv⟩, fun D2 hD2 => ?_⟩
        refine lc_list (K := K) (a := D) (xs := lv) (fun k H' => Same H3 H' ∧ ∃ gv, H' D2 = some (.lst gv) ∧ RowsAt H' ms' gv ((X.take k).filter (agB ws ws' Ms Ms'))) ⟨same_new hD2, [], upd_same, .nil⟩ (fun k H' _ ⟨s, _⟩ => SqL.of (s _ _ hlv)) ?_ ?_
        · rintro k v H4 hv ⟨s4, gv, hgv, hRg⟩
          obtain ⟨p, hp, tp, rfl, htp⟩ := paired_at hRl hv
          obtain ⟨r, a, rfl, hrL, har, ham⟩ := hLX p (List.mem_of_getElem? hp)
          obtain ⟨r1, r2, r3, r4⟩ := hLm r hrL
          have s04 := ((s0.trans s2).trans s3).trans s4
          have htp' := s4 _ _ htp
          refine ⟨rfl, ?_⟩
          refine ⟨.ref x, rfl, .ref y, rfl, .ref tp, rfl, x, y, tp, z, z', b, b, m, m, ms, ks, ms', ws, ws', Ms, Ms', r, a, rfl, hX.same s04, hY.same s04, SqT.of htp', by omega, fun c hc => ?_, r4, fun H5 s5 => ?_⟩
          · rcases List.mem_append.mp hc with hc | hc
            · exact r3 c hc
            · rw [List.mem_singleton.mp hc]
              exact ham
          refine ⟨_, rfl, ?_⟩
          have ef : (X.take (k + 1)).filter (agB ws ws' Ms Ms') = (X.take k).filter (agB ws ws' Ms Ms') ++ [r ++ [a]].filter (agB ws ws' Ms Ms') := by rw [take_more hp, List.filter_append]
          have hgv5 := s5 _ _ hgv
          have hRg5 := hRg.same s5
          cases eb : agB ws ws' Ms Ms' (r ++ [a]) with
          | false =>
            refine iteF ⟨s4.trans s5, gv, hgv5, ?_⟩
            rw [ef, List.filter_cons, if_neg (by rw [eb]; decide)]
            show RowsAt H5 ms' gv (_ ++ [])
            rw [List.append_nil]
            exact hRg5
          | true =>
            refine iteT ?_
            refine ⟨.ref tp, rfl, gv, hgv5, ?_, fun b' o e => ?_, gv ++ [.ref tp], upd_same, ?_⟩
            · rw [paired_len hRg5]
              have h1 := List.length_filter_le (agB ws ws' Ms Ms') (X.take k)
              rw [List.length_take] at h1
              exact small1000 (by omega)
            · rw [upd_ne (ne_of_none e hD2)]
              exact s5 _ _ (s4 _ _ e)
            · rw [ef, List.filter_cons, if_pos eb]
              have k1 : RowsAt (upd H5 D2 (.lst (gv ++ [.ref tp]))) ms' gv ((X.take k).filter (agB ws ws' Ms Ms')) := hRg5.keep fun t' xs e => by
                rw [upd_ne (fun z => by rw [z, hgv5] at e; cases e)]
                exact e
              refine paired_snoc ⟨tp, rfl, ?_⟩ k1
              rw [upd_ne (fun z => by rw [z] at htp'; rw [htp'] at hgv; cases hgv)]
              exact s5 _ _ htp'
        · rintro H4 ⟨s4, gv, hgv, hRg⟩
          rw [paired_len hRl, List.take_length, hLL] at hRg
          exact ⟨D2, gv, _, _, rfl, (s2.trans s3).trans s4, hgv, hRg⟩
    · rintro σ H2 ⟨f, fv, u3, u4, rfl, s2, hf, hR⟩
      rw [List.length_map, hml] at hR
      refine ⟨.ref f, rfl, f, fv, (fnd ws ws' Ms Ms' m m).map (dRow ms'), rfl, SqL.of hf, dp_rows hR, ?_, fnd_sortable hm1, ?_, fun yv p hyv hp => ?_⟩
      · have h := renX_alike (m := m) (m' := m) (ms' := ms') (ws := ws) (ws' := ws') (Ms := Ms) (Ms' := Ms')
        unfold renX at h
        rw [if_pos rfl] at h
        exact h
      · intro d hd
        obtain ⟨r, _, rfl⟩ := List.mem_map.mp hd
        unfold dRow
        simp only [PyData.depth, dep_strs]
        decide
      · have sp := same_new (o := .lst yv) hp
        refine ⟨p, yv, rfl, .inl ⟨SqL.of upd_same, fun t ht => ?_⟩⟩
        have st := same_new (o := .tup yv) ht
        refine q t _ (((s0.trans s2).trans sp).trans st) ?_
        unfold renX
        rw [if_pos rfl]
        exact .tup (SqT.of upd_same) (DpAll.same (sp.trans st) hyv)
end
end OG
set_option Elab.async false
set_option linter.all false
set_option maxRecDepth 100000
set_option maxHeartbeats 8000000
namespace OG
open PySem PySem.Spec PyProof.Rows L2
def natV (r : List Nat) : List V := r.map fun (a : Nat) => V.int (a : Int)
theorem paired_app {α β : Type} {R : α → β → Prop} : ∀ {xs xs' : List α} {ys ys' : List β}, Paired R xs ys → Paired R xs' ys' → Paired R (xs ++ xs') (ys ++ ys')
  | _, _, _, _, .nil, h => h
  | _, _, _, _, .cons r t, h => .cons r (paired_app t h)
/-- rows of places at refs -/
def IRows (H : Hp) (vs : List V) (rs : List (List Nat)) : Prop := Paired (fun v r => ∃ t, v = .ref t ∧ H t = some (.tup (natV r))) vs rs
theorem IRows.keep {H H' : Hp} {vs : List V} {rs : List (List Nat)} (h : IRows H vs rs) (s : ∀ t xs, H t = some (.tup xs) → H' t = some (.tup xs)) : IRows H' vs rs := by
  unfold IRows at *
  induction h with
  | nil => exact .nil
  | cons h _ ih =>
    obtain ⟨t, e, ht⟩ := h
    exact .cons ⟨t, e, s _ _ ht⟩ ih
theorem IRows.same {H H' : Hp} {vs : List V} {rs : List (List Nat)} (h : IRows H vs rs) (s : Same H H') : IRows H' vs rs := h.keep fun t xs e => s _ _ e
theorem natV_at {r : List Nat} {i : Nat} {x : V} (h : (natV r)[i]? = some x) : ∃ a, r[i]? = some a ∧ x = .int (a : Int) := by
  unfold natV at h
  rw [List.getElem?_map] at h
  cases e : r[i]? with
  | none =>
    rw [e] at h
    cases h
  | some a =>
    rw [e] at h
    exact ⟨a, rfl, (Option.some.inj h).symm⟩
theorem nmRow_take {ms : List Str} {r : List Nat} {i a : Nat} (h : r[i]? = some a) : nmRow ms (r.take (i + 1)) = nmRow ms (r.take i) ++ [nmAt ms a] := by
  unfold nmRow
  rw [take_more h, List.map_append]
  rfl
theorem natV_map (r : List Nat) : natV r = (r.map fun (a : Nat) => (a : Int)).map V.int := by
  unfold natV
  rw [List.map_map]
  rfl
theorem flat_natV (r : List Nat) : (natV r).all flatV = true := by
  rw [natV_map]
  exact flat_ints _
theorem inV_natV (a : Nat) (r : List Nat) : inV (.int (a : Int)) (natV r) = decide (a ∈ r) := by
  rw [natV_map, inV_int]
  refine decide_eq_decide.mpr ⟨fun h => ?_, fun h => List.mem_map.mpr ⟨a, h, rfl⟩⟩
  obtain ⟨b, hb, e⟩ := List.mem_map.mp h
  rwa [← Int.ofNat_inj.mp e]
theorem natV_app (r : List Nat) (a : Nat) : natV (r ++ [a]) = natV r ++ [.int (a : Int)] := by
  unfold natV
  rw [List.map_append]
  rfl
section
variable {P : Program} {w : World} {K : PySem.W.Frag} {mg : Str → Option Value} {base : Heap}
def spCalled (K : PySem.W.Frag) : Sp := fun vs H Q _ => ∃ (o t : Addr) (b : Int) (m : Nat) (ms ks : List Str) (ws : List Int) (Ms : List (List (List Int))) (r : List Nat), vs = [.ref o, .ref t] ∧ BookAt H o b m ms ws ks Ms ∧ BkOk b m ms ws ks Ms ∧ H t = some (.tup (natV r)) ∧ r.length ≤ 4 ∧ (∀ a ∈ r, a < m) ∧
  ∀ (p : Addr) (H' : Hp), Same H H' → H' p = some (.tup ((nmRow ms r).map V.str)) → Q (.ref p) H'
theorem ok_l_book_called (T : Txt K mg) : FnOk P w K mg base CX0 1 T.f_l_book_called T.fd_l_book_called ["own", "row"] (spCalled K) := by
  refine T.F_l_book_called.ok sc_l_book_called (fun vs H Q E h => ?_) (fun cdv A outer s H vs Q E hr h => ?_)
  · obtain ⟨o, t, _, _, _, _, _, _, _, rfl, _⟩ := h
    rfl
  · obtain ⟨o, t, b, m, ms, ks, ws, Ms, r, rfl, hB, ok, hT, hl, hlt, q⟩ := h
    refine ⟨_, (pss_one (ps_ret (pe_callTy call_tuple_of (by rfl) T.n_tuple (by decide +kernel) (pa_cons (pe_lc (own := [("at", 2)]) (g := gName 2) (by rfl) sc_l_book_called.nd (pi_tup (pv 1)) (blkOk_by (own := [("at", 2)]) (by rfl)) (fun _ _ _ _ _ => (pg_name (i := 2) sc_l_book_called.nd rfl (Or.inl rfl))) (fun _ _ _ _ _ => pts_nil) (fun _ _ _ _ _ => (pe_ix (ix_tupK K) (pe_dget (hu_of hr) (pv 0) pe_str (fun _ _ => rfl)) (pv 2) (fun _ _ => rfl)))) pa_nil)))), ?_⟩
    have hml := ok.nm.len
    obtain ⟨kvs, tm, tw, tk, td, hO, hl10, v1, v2, hT2, v3, hT3, v4, hT4, v5, _⟩ := id hB
    refine ⟨.ref t, rfl, t, rfl, ⟨_, SqT.of hT⟩, fun D hD => ?_⟩
    refine lc_tup (K := K) (a := t) (xs := natV r) (fun i H' => Same H H' ∧ H' D = some (.lst ((nmRow ms (r.take i)).map V.str))) ⟨same_new hD, upd_same⟩ (fun i H' _ ⟨s, _⟩ => SqT.of (s _ _ hT)) ?_ ?_
    · rintro i u H1 hu ⟨s1, g1⟩
      obtain ⟨a, ha, rfl⟩ := natV_at hu
      have ham := hlt a (List.mem_of_getElem? ha)
      refine ⟨rfl, ?_⟩
      refine ⟨.ref o, rfl, o, _, rfl, dget (s1 _ _ hO) v2, .int (a : Int), rfl, tm, _, (a : Int), .str (nmAt ms a), rfl, rfl, SqT.of (s1 _ _ hT2), atI_nat (by rw [List.getElem?_map, nmAt_get (by omega)]; rfl), _, g1, ?_, fun b' o' e => ?_, ?_⟩
      · unfold nmRow
        rw [List.length_map, List.length_map, List.length_take]
        exact small1000 (by omega)
      · rw [upd_ne (ne_of_none e hD)]
        exact s1 _ _ e
      · rw [upd_same, nmRow_take ha, List.map_append]
        rfl
    · rintro H1 ⟨s1, g1⟩
      have l : (natV r).length = r.length := List.length_map ..
      rw [l, List.take_length] at g1
      exact ⟨D, _, rfl, .inl ⟨SqL.of g1, fun p hp => q p _ (s1.trans (same_new hp)) upd_same⟩⟩
def spOrders : Sp := fun vs H Q _ => ∃ m : Nat, vs = [.int (m : Int)] ∧ m ≤ 4 ∧ ∀ (D : Addr) (lv : List V) (H' : Hp), Same H H' → H' D = some (.lst lv) → IRows H' lv (ords m m) → Q (.ref D) H'
theorem ok_l_orders (T : Txt K mg) : FnOk P w K mg base CX0 1 T.f_l_orders T.fd_l_orders ["many"] (spOrders) := by
  refine T.F_l_orders.ok sc_l_orders (fun vs H Q E h => ?_) (fun cdv A outer s H vs Q E hr h => ?_)
  · obtain ⟨m, rfl, _⟩ := h
    rfl
  · obtain ⟨m, rfl, hm, q⟩ := h
    refine ⟨_, (pss_cons (ps_set (i := 1) sc_l_orders.nd rfl (Or.inl rfl) (pe_lst (pa_cons (pe_tup pa_nil) pa_nil)))
  (pss_cons (ps_for PassesOwn.never rfl (pi_range1 (by rfl) T.n_range (pa_cons (pv 0) pa_nil)) (pg_name (i := 2) sc_l_orders.nd rfl (Or.inl rfl)) (pss_cons (ps_set (i := 3) sc_l_orders.nd rfl (Or.inl rfl) (pe_lst pa_nil))
  (pss_cons (ps_for PassesOwn.never rfl (pi_list (pv 1)) (pg_name (i := 4) sc_l_orders.nd rfl (Or.inr rfl)) (pss_one (ps_expr (pe_bm PySem.F.plainAttrs_list PySem.F.slot_list_extend PySem.F.type_list_extend mt_extend (pv 3) (pa_cons (pe_lc (own := [("at", 5)]) (g := gName 5) (by rfl) sc_l_orders.nd (pi_range1 (by rfl) T.n_range (pa_cons (pv 0) pa_nil)) (blkOk_by (own := [("at", 5)]) (by rfl)) (fun _ _ _ _ _ => (pg_name (i := 5) sc_l_orders.nd rfl (Or.inl rfl))) (fun _ _ _ _ _ => (pts_one (pt_cmpR (op_notIn_seqK K) (pv 5) (pv 4) rfl))) (fun _ _ _ _ _ => (pe_op (op_catAK K) (pv 4) (pe_tup (pa_cons (pv 5) pa_nil))))) pa_nil)))))
  (pss_one (ps_set (i := 1) sc_l_orders.nd rfl (Or.inl rfl) (pv 3))))))
  (pss_one (ps_ret (pv 1))))), ?_⟩
    refine ⟨Nat.zero_le _, fun t0 ht0 => ⟨Nat.le_trans (show 1 ≤ 1000 by decide) (by decide), fun f0 hf0 => ?_⟩⟩
    have s0 := (same_new (o := .tup []) ht0).trans (same_new (o := .lst [.ref t0]) hf0)
    have gt0 := same_new (o := .lst [.ref t0]) hf0 _ _ (upd_same (H := H) (a := t0) (o := .tup []))
    have gf0 : (upd (upd H t0 (.tup [])) f0 (.lst [.ref t0])) f0 = some (.lst [.ref t0]) := upd_same
    generalize upd (upd H t0 (.tup [])) f0 (.lst [.ref t0]) = H1 at *
    refine ⟨.int (m : Int), rfl, (m : Int), rfl, by omega, by omega, ?_⟩
    rw [Int.toNat_natCast]
    refine for_range (lo := 0) (n := m) (fun i σ H' => ∃ (f : Addr) (fv : List V) (u2 u3 u4 : Option V), σ = [some (.int (m : Int)), some (.ref f), u2, u3, u4, none] ∧ Same H1 H' ∧ H' f = some (.lst fv) ∧ IRows H' fv (ords m i))
      ⟨f0, [.ref t0], _, _, _, rfl, Same.refl _, gf0, .cons ⟨t0, rfl, gt0⟩ .nil⟩ ?_ ?_
    · rintro i σ H2 hi ⟨f, fv, u2, u3, u4, rfl, s2, hf, hR⟩
      refine ⟨Nat.zero_le _, fun L hL => ?_⟩
      have nL : ∀ {b o}, H2 b = some o → b ≠ L := fun e z => by
        rw [z, hL] at e
        cases e
      have hlo := ords_len hm i (by omega)
      refine ⟨.ref f, rfl, f, rfl, ⟨_, SqL.of (same_new hL _ _ hf)⟩, ?_⟩
      refine for_list (K := K) (a := f) (xs := fv) (fun k σ H' => ∃ (u4 : Option V) (lv : List V), σ = [some (.int (m : Int)), some (.ref f), some (.int (0 + (i : Int))), some (.ref L), u4, none] ∧ Same H2 H' ∧ H' L = some (.lst lv) ∧ IRows H' lv (((ords m i).take k).flatMap (ext1 m)))
        ⟨_, [], rfl, same_new hL, upd_same, .nil⟩ (fun k σ H' _ ⟨_, _, _, s, _⟩ => SqL.of (s _ _ hf)) ?_ ?_
      · rintro k v σ H3 hv ⟨u4, lv, rfl, s3, hlv, hRl⟩
        obtain ⟨r, hr, tr, rfl, htr⟩ := paired_at hR hv
        obtain ⟨r1, r2, r3⟩ := ords_mem (List.mem_of_getElem? hr)
        have htr3 := s3 _ _ htr
        refine ⟨.ref L, rfl, .inl ⟨rfl, _, SqL.of hlv⟩, ?_⟩
        refine ⟨.int (m : Int), rfl, (m : Int), rfl, by omega, by omega, fun D hD => ?_⟩
        rw [Int.toNat_natCast]
        have nLD : L ≠ D := fun z => by
          rw [z, hD] at hlv
          cases hlv
        refine lc_range (lo := 0) (n := m) (fun j H' => Same H3 H' ∧ ∃ dv, H' D = some (.lst dv) ∧ IRows H' dv (((List.range j).filter fun a => !decide (a ∈ r)).map fun a => r ++ [a])) ⟨same_new hD, [], upd_same, .nil⟩ ?_ ?_
        · rintro j H4 hj ⟨s4, dv, hdv, hRd⟩
          refine ⟨rfl, ?_⟩
          have htr4 := s4 _ _ htr3
          rw [show (0 : Int) + (j : Int) = (j : Int) from Int.zero_add _]
          refine ⟨.int (j : Int), rfl, .ref tr, rfl, tr, natV r, rfl, .inr (SqT.of htr4), rfl, flat_natV r, ?_⟩
          rw [inV_natV]
          refine ⟨_, rfl, ?_⟩
          by_cases hc : j ∈ r
          case pos =>
            rw [decide_eq_true hc]
            refine iteF ⟨s4, dv, hdv, ?_⟩
            rw [fr_neg hc]
            exact hRd
          case neg =>
            rw [decide_eq_false hc]
            refine iteT ?_
            have fin : ∀ (t : Addr) (H5 : Hp), Same H4 H5 → H5 t = some (.tup (natV (r ++ [j]))) → ∃ acc, H5 D = some (.lst acc) ∧ acc.length < sizeLine ∧ Same H3 (upd H5 D (.lst (acc ++ [.ref t]))) ∧ ∃ dv, upd H5 D (.lst (acc ++ [.ref t])) D = some (.lst dv) ∧
                IRows (upd H5 D (.lst (acc ++ [.ref t]))) dv (((List.range (j + 1)).filter fun a => !decide (a ∈ r)).map fun a => r ++ [a]) := fun t H5 s5 ht => by
              have hdv5 := s5 _ _ hdv
              have nt : t ≠ D := fun z => by
                rw [z, hdv5] at ht
                cases ht
              refine ⟨dv, hdv5, ?_, fun b o e => ?_, dv ++ [.ref t], upd_same, ?_⟩
              · rw [paired_len hRd, List.length_map]
                have := List.length_filter_le (fun a => !decide (a ∈ r)) (List.range j)
                rw [List.length_range] at this
                exact small1000 (by omega)
              · rw [upd_ne (ne_of_none e hD)]
                exact s5 _ _ (s4 _ _ e)
              · rw [fr_pos hc]
                have k1 : IRows (upd H5 D (.lst (dv ++ [.ref t]))) dv (((List.range j).filter fun a => !decide (a ∈ r)).map fun a => r ++ [a]) := (hRd.same s5).keep fun t' xs e => by
                  rw [upd_ne (fun z => by rw [z, hdv5] at e; cases e)]
                  exact e
                refine paired_snoc ⟨t, rfl, ?_⟩ k1
                rw [upd_ne nt]
                exact ht
            refine ⟨.ref tr, rfl, .int (j : Int), rfl, Nat.le_trans (show 1 ≤ 1000 by decide) (by decide), fun t ht => ?_⟩
            have st := same_new (o := .tup [.int (j : Int)]) ht
            have gt : (upd H4 t (.tup [.int (j : Int)])) t = some (.tup [.int (j : Int)]) := upd_same
            generalize upd H4 t (.tup [.int (j : Int)]) = H5 at *
            refine ⟨tr, t, natV r, [.int (j : Int)], rfl, rfl, SqT.of (st _ _ htr4), SqT.of gt, ?_, fun e => ?_, fun _ e => (by cases e), fun _ _ p hp => ?_⟩
            · unfold natV
              rw [List.length_map, r1]
              exact Nat.le_trans (show i + 1 ≤ 1000 by omega) (by decide)
            · refine fin t H5 st ?_
              rw [natV_app, e]
              exact gt
            · refine fin p _ (st.trans (same_new hp)) ?_
              rw [natV_app]
              exact upd_same
        · rintro H4 ⟨s4, dv, hdv, hRd⟩
          refine ⟨L, D, lv, dv, rfl, rfl, s4 _ _ hlv, hdv, ?_, ?_⟩
          · have h1 := exflat_len (n := m) ((ords m i).take k)
            have h3 : m * ((ords m i).take k).length ≤ 4 * 100 := Nat.mul_le_mul hm (by rw [List.length_take]; omega)
            have h2 := ext1_len (n := m) r
            rw [paired_len hRl, paired_len hRd]
            exact Nat.le_trans (show _ ≤ 1000 by unfold ext1 at h2; omega) (by decide)
          · refine ⟨_, lv ++ dv, rfl, fun b o e => ?_, upd_same, ?_⟩
            · rw [upd_ne (nL e)]
              exact s4 _ _ (s3 _ _ e)
            · have kp : ∀ t xs, H4 t = some (.tup xs) → upd H4 L (.lst (lv ++ dv)) t = some (.tup xs) := fun t xs e => by
                rw [upd_ne (fun z => by rw [z, s4 _ _ hlv] at e; cases e)]
                exact e
              rw [take_more hr, List.flatMap_append, List.flatMap_singleton]
              exact paired_app ((hRl.same s4).keep kp) (hRd.keep kp)
      · rintro σ H3 ⟨u4, lv, rfl, s3, hlv, hRl⟩
        rw [paired_len hR, List.take_length] at hRl
        exact ⟨.ref L, rfl, L, lv, _, _, _, rfl, s2.trans s3, hlv, hRl⟩
    · rintro σ H2 ⟨f, fv, u2, u3, u4, rfl, s2, hf, hR⟩
      exact ⟨.ref f, rfl, q f fv _ (s0.trans s2) hf hR⟩
end
end OG
set_option Elab.async false
set_option linter.all false
set_option maxRecDepth 100000
set_option maxHeartbeats 8000000
namespace OG
open PySem PySem.Spec PyProof.Rows L2
theorem natV_get {r : List Nat} {a : Nat} (h : a < r.length) : (natV r)[a]? = some (V.int ((at0 r a : Nat) : Int)) := by
  unfold natV at0
  rw [List.getElem?_map, List.getD_eq_getElem?_getD, List.getElem?_eq_getElem h]
  rfl
theorem Tab.atM {b : Int} {H : Hp} {t : Addr} {m : Nat} {M : List (List Int)} (h : Tab b H t m M) : ∃ rs : List Addr, H t = some (.tup (rs.map V.ref)) ∧ ∀ a, a < m → ∃ (ra : Addr) (row : List Int), rs[a]? = some ra ∧ H ra = some (.tup (row.map V.int)) ∧ ∀ c, c < m → row[c]? = some (mAt M a c) := by
  obtain ⟨rs, h1, h2, h3, h4, h5⟩ := h
  refine ⟨rs, h1, fun a ha => ?_⟩
  have e : rs[a]? = some rs[a] := List.getElem?_eq_getElem (by omega)
  obtain ⟨row, e1, e2⟩ := h4 a _ e
  refine ⟨_, row, e, e2, fun c hc => ?_⟩
  have hl := (h5 row (List.mem_of_getElem? e1)).1
  unfold mAt
  rw [List.getD_eq_getElem?_getD, List.getD_eq_getElem?_getD, e1]
  show row[c]? = some (row[c]?.getD 0)
  rw [List.getElem?_eq_getElem (by omega)]
  rfl
def rgI (f : Nat → Int) (n : Nat) : List Int := (List.range n).map f
theorem rgI_succ (f : Nat → Int) (n : Nat) : (rgI f (n + 1)).map V.int = (rgI f n).map V.int ++ [V.int (f n)] := by
  unfold rgI
  rw [List.range_succ, List.map_append, List.map_append]
  rfl
theorem rgI_len (f : Nat → Int) (n : Nat) : ((rgI f n).map V.int).length = n := by
  unfold rgI
  rw [List.length_map, List.length_map, List.length_range]
theorem rgI_eq {f g : Nat → Int} {n : Nat} : rgI f n = rgI g n ↔ ∀ a, a < n → f a = g a := by
  unfold rgI
  constructor
  · intro h a ha
    have e := congrArg (fun l => l[a]?) h
    simp only [List.getElem?_map, List.getElem?_range ha] at e
    exact Option.some.inj e
  · exact fun h => List.map_congr_left fun a ha => h a (List.mem_range.mp ha)
theorem dpi : ∀ {K : PySem.W.Frag} {H : Hp} (zs : List Int), DpAll K H (zs.map V.int) (zs.map PyData.int)
  | _, _, [] => .nil
  | _, _, z :: r => .cons (.int z) (dpi r)
theorem shp_ints (zs : List Int) : SeqAt.shaped (.list (zs.map PyData.int)) = true := by
  have h1 : PyData.canLayAll0 (zs.map PyData.int) = true := by
    induction zs with
    | nil => rfl
    | cons z r ih =>
      simp only [List.map_cons, PyData.canLayAll0, PyData.canLay0, Bool.and_eq_true]
      exact ⟨trivial, ih⟩
  have h2 : PyData.depthAll (zs.map PyData.int) = 0 := by
    induction zs with
    | nil => simp only [List.map_nil, PyData.depthAll]
    | cons z r ih =>
      simp only [List.map_cons, PyData.depthAll, PyData.depth, Nat.zero_max]
      exact ih (by
        simp only [List.map_cons, PyData.canLayAll0, Bool.and_eq_true] at h1
        exact h1.2)
  unfold SeqAt.shaped
  rw [Bool.and_eq_true]
  refine ⟨?_, decide_eq_true ?_⟩
  · simp only [PyData.canLay0]
    exact h1
  · simp only [PyData.depth, h2]
    decide
theorem eqv_ints {zs ys : List Int} : PyData.eqv (.list (zs.map PyData.int)) (.list (ys.map PyData.int)) = decide (zs = ys) := by
  simp only [PyData.eqv]
  induction zs generalizing ys with
  | nil =>
    cases ys with
    | nil => simp [PyData.eqvAll]
    | cons y ys => simp [PyData.eqvAll]
  | cons z zs ih =>
    cases ys with
    | nil => simp [PyData.eqvAll]
    | cons y ys =>
      simp only [List.map_cons, PyData.eqvAll, PyData.eqv, ih]
      by_cases e : z = y <;> simp [e]
section
variable {P : Program} {w : World} {K : PySem.W.Frag} {mg : Str → Option Value} {base : Heap}
def spIsRen : Sp := fun vs H Q _ => ∃ (o o' t : Addr) (b b' : Int) (m : Nat) (ms ks ms' : List Str) (ws ws' : List Int) (Ms Ms' : List (List (List Int))) (r : List Nat), vs = [.ref o, .ref o', .ref t] ∧ BookAt H o b m ms ws ks Ms ∧ BkOk b m ms ws ks Ms ∧ BookAt H o' b' m ms' ws' ks Ms' ∧ BkOk b' m ms' ws' ks Ms' ∧
  H t = some (.tup (natV r)) ∧ r ∈ ords m m ∧ ∀ H', Same H H' → Q (.bl (agB ws ws' Ms Ms' r)) H'
theorem ok_l_is_renaming (T : Txt K mg) : FnOk P w K mg base CX0 1 T.f_l_is_renaming T.fd_l_is_renaming ["one", "other", "row"] (spIsRen) := by
  refine T.F_l_is_renaming.ok sc_l_is_renaming (fun vs H Q E h => ?_) (fun cdv A outer s H vs Q E hr h => ?_)
  · obtain ⟨o, o', t, _, _, _, _, _, _, _, _, _, _, _, rfl, _⟩ := h
    rfl
  · obtain ⟨o, o', t, b, b', m, ms, ks, ms', ws, ws', Ms, Ms', r, rfl, hB, ok, hB', ok', hT, hr', q⟩ := h
    refine ⟨_, (pss_cons (ps_set (i := 3) sc_l_is_renaming.nd rfl (Or.inl rfl) (pe_listRg (by rfl) (by rfl) T.n_list (prg_1 (by rfl) T.n_range (pe_callB call_len_seq (by rfl) T.n_len PySem.boot_len (pa_cons (pv 2) pa_nil)))))
  (pss_cons (ps_if (pt_cmpR (op_neD hr.units) (pe_lc (own := [("a", 4)]) (g := gName 4) (by rfl) sc_l_is_renaming.nd (pi_list (pv 3)) (blkOk_by (own := [("a", 4)]) (by rfl)) (fun _ _ _ _ _ => (pg_name (i := 4) sc_l_is_renaming.nd rfl (Or.inl rfl))) (fun _ _ _ _ _ => pts_nil) (fun _ _ _ _ _ => (pe_ix (ix_tupK K) (pe_dget (hu_of hr) (pv 0) pe_str (fun _ _ => rfl)) (pv 4) (fun _ _ => rfl)))) (pe_lc (own := [("a", 4)]) (g := gName 4) (by rfl) sc_l_is_renaming.nd (pi_list (pv 3)) (blkOk_by (own := [("a", 4)]) (by rfl)) (fun _ _ _ _ _ => (pg_name (i := 4) sc_l_is_renaming.nd rfl (Or.inl rfl))) (fun _ _ _ _ _ => pts_nil) (fun _ _ _ _ _ => (pe_ix (ix_tupK K) (pe_dget (hu_of hr) (pv 1) pe_str (fun _ _ => rfl)) (pe_ix (ix_tupK K) (pv 2) (pv 4) (fun _ _ => rfl)) (fun _ _ => rfl)))) (nomark _)) (pss_one (ps_ret pe_bl)) pss_nil)
  (pss_cons (ps_for PassesOwn.never rfl (pi_tup (pe_dget (hu_of hr) (pv 0) pe_str (fun _ _ => rfl))) (pg_name (i := 5) sc_l_is_renaming.nd rfl (Or.inl rfl)) (pss_cons (ps_asg (pe_tup (pa_cons (pe_dget (hu_of hr) (pe_dget (hu_of hr) (pv 0) pe_str (fun _ _ => rfl)) (pv 5) (fun _ _ => rfl)) (pa_cons (pe_dget (hu_of hr) (pe_dget (hu_of hr) (pv 1) pe_str (fun _ _ => rfl)) (pv 5) (fun _ _ => rfl)) pa_nil))) (pg_tup (by rfl) (pgs_cons (pg_name (i := 6) sc_l_is_renaming.nd rfl (Or.inr rfl)) (pgs_cons (pg_name (i := 7) sc_l_is_renaming.nd rfl (Or.inr rfl)) pgs_nil))))
  (pss_one (ps_for PassesOwn.never rfl (pi_list (pv 3)) (pg_name (i := 4) sc_l_is_renaming.nd rfl (Or.inr rfl)) (pss_one (ps_if (pt_cmpR (op_neD hr.units) (pe_lc (own := [("b", 8)]) (g := gName 8) (by rfl) sc_l_is_renaming.nd (pi_list (pv 3)) (blkOk_by (own := [("b", 8)]) (by rfl)) (fun _ _ _ _ _ => (pg_name (i := 8) sc_l_is_renaming.nd rfl (Or.inl rfl))) (fun _ _ _ _ _ => pts_nil) (fun _ _ _ _ _ => (pe_ix (ix_tupK K) (pe_ix (ix_tupK K) (pv 6) (pv 4) (fun _ _ => rfl)) (pv 8) (fun _ _ => rfl)))) (pe_lc (own := [("b", 8)]) (g := gName 8) (by rfl) sc_l_is_renaming.nd (pi_list (pv 3)) (blkOk_by (own := [("b", 8)]) (by rfl)) (fun _ _ _ _ _ => (pg_name (i := 8) sc_l_is_renaming.nd rfl (Or.inl rfl))) (fun _ _ _ _ _ => pts_nil) (fun _ _ _ _ _ => (pe_ix (ix_tupK K) (pe_ix (ix_tupK K) (pv 7) (pe_ix (ix_tupK K) (pv 2) (pv 4) (fun _ _ => rfl)) (fun _ _ => rfl)) (pe_ix (ix_tupK K) (pv 2) (pv 8) (fun _ _ => rfl)) (fun _ _ => rfl)))) (nomark _)) (pss_one (ps_ret pe_bl)) pss_nil))))))
  (pss_one (ps_ret pe_bl))))), ?_⟩
    obtain ⟨r1, r2, r3⟩ := ords_mem hr'
    have hm4 := ok.m4
    have hwl := ok.wl
    have hwl' := ok'.wl
    have hMl := ok.ml
    have hMl' := ok'.ml
    obtain ⟨kvs, tm, tw, tk, td, hO, hl10, v1, v2, hT2, v3, hT3, v4, hT4, v5, tkvs, hTd, tnd, tln, tabs⟩ := id hB
    obtain ⟨kvs', tm', tw', tk', td', hO', hl10', v1', v2', hT2', v3', hT3', v4', hT4', v5', tkvs', hTd', tnd', tln', tabs'⟩ := id hB'
    refine ⟨.ref t, rfl, t, _, rfl, .inr (SqT.of hT), ?_⟩
    have ln : (natV r).length = m := by
      unfold natV
      rw [List.length_map, r1]
    rw [ln]
    refine ⟨_, rfl, RgOk.of_le (by omega) (by omega) (by omega) (by omega), fun L hL => ?_⟩
    have s1 := same_new (o := .lst (rgV 0 (m : Int))) hL
    have gL : (upd H L (.lst (rgV 0 (m : Int)))) L = some (.lst (rgV 0 (m : Int))) := upd_same
    generalize upd H L (.lst (rgV 0 (m : Int))) = H1 at *
    rw [rgV_nat] at gL
    have lL : ((List.range m).map fun (i : Nat) => V.int (i : Int)).length = m := by rw [List.length_map, List.length_range]
    refine ⟨.ref L, rfl, L, rfl, ⟨_, SqL.of gL⟩, fun D hD => ?_⟩
    refine lc_list (K := K) (a := L) (xs := (List.range m).map fun (i : Nat) => V.int (i : Int)) (fun i H' => Same H1 H' ∧ H' D = some (.lst ((rgI (wAt ws) i).map V.int))) ⟨same_new hD, upd_same⟩ (fun i H' _ ⟨s, _⟩ => SqL.of (s _ _ gL)) ?_ ?_
    · rintro i u H2 hu ⟨s2, g2⟩
      obtain ⟨him, rfl⟩ := range_at hu
      refine ⟨rfl, ?_⟩
      refine ⟨.ref o, rfl, o, _, rfl, dget (s2 _ _ (s1 _ _ hO)) v3, .int (i : Int), rfl, tw, _, (i : Int), .int (wAt ws i), rfl, rfl, SqT.of (s2 _ _ (s1 _ _ hT3)), atI_nat (by rw [List.getElem?_map, wAt_get (by omega)]; rfl), _, g2, ?_, fun b' o' e => ?_, ?_⟩
      · rw [rgI_len]
        exact small1000 (by omega)
      · rw [upd_ne (ne_of_none e hD)]
        exact s2 _ _ e
      · rw [upd_same, rgI_succ]
    rintro H2 ⟨s2, g2⟩
    rw [lL] at g2
    refine ⟨.ref L, rfl, L, rfl, ⟨_, SqL.of (s2 _ _ gL)⟩, fun D2 hD2 => ?_⟩
    refine lc_list (K := K) (a := L) (xs := (List.range m).map fun (i : Nat) => V.int (i : Int)) (fun i H' => Same H2 H' ∧ H' D2 = some (.lst ((rgI (fun a => wAt ws' (at0 r a)) i).map V.int))) ⟨same_new hD2, upd_same⟩ (fun i H' _ ⟨s, _⟩ => SqL.of (s _ _ (s2 _ _ gL))) ?_ ?_
    · rintro i u H3 hu ⟨s3, g3⟩
      obtain ⟨him, rfl⟩ := range_at hu
      refine ⟨rfl, ?_⟩
      have hat := at0_lt r3 (i := i) (by omega)
      have s13 := (s1.trans s2).trans s3
      refine ⟨.ref o', rfl, o', _, rfl, dget (s13 _ _ hO') v3', .ref t, rfl, .int (i : Int), rfl, t, _, (i : Int), .int ((at0 r i : Nat) : Int), rfl, rfl, SqT.of (s13 _ _ hT), atI_nat (natV_get (by omega)), tw', _, ((at0 r i : Nat) : Int), .int (wAt ws' (at0 r i)), rfl, rfl, SqT.of (s13 _ _ hT3'), atI_nat (by rw [List.getElem?_map, wAt_get (by omega)]; rfl), _, g3, ?_, fun b' o' e => ?_, ?_⟩
      · rw [rgI_len]
        exact small1000 (by omega)
      · rw [upd_ne (ne_of_none e hD2)]
        exact s3 _ _ e
      · rw [upd_same, rgI_succ]
    rintro H3 ⟨s3, g3⟩
    rw [lL] at g3
    refine ⟨_, _, .lst (SqL.of (s3 _ _ g2)) (dpi _), .lst (SqL.of g3) (dpi _), shp_ints _, shp_ints _, ?_⟩
    rw [eqv_ints]
    by_cases ew : rgI (wAt ws) m = rgI (fun a => wAt ws' (at0 r a)) m
    case neg =>
      rw [decide_eq_false ew]
      refine ⟨_, rfl, ?_⟩
      refine iteT ?_
      have e : agB ws ws' Ms Ms' r = false := decide_eq_false fun h => ew (rgI_eq.mpr fun a ha => h.1 a (by omega))
      have q := q H3 ((s1.trans s2).trans s3)
      rw [e] at q
      exact q
    case pos =>
    rw [decide_eq_true ew]
    refine ⟨_, rfl, ?_⟩
    refine iteF ?_
    have s13 := (s1.trans s2).trans s3
    have gL3 := s3 _ _ (s2 _ _ gL)
    refine ⟨.ref o, rfl, o, _, rfl, dget (s13 _ _ hO) v4, tk, rfl, ⟨_, SqT.of (s13 _ _ hT4)⟩, ?_⟩
    refine for_tup (K := K) (a := tk) (xs := ks.map V.str) (fun i σ H' => ∃ u4 u5 u6 u7 : Option V, σ = [some (.ref o), some (.ref o'), some (.ref t), some (.ref L), u4, u5, u6, u7, none] ∧ Same H3 H' ∧
      ∀ k, k < i → ∀ a, a < m → ∀ c, c < m → mAt (Ms.getD k []) a c = mAt (Ms'.getD k []) (at0 r a) (at0 r c))
      ⟨_, _, _, _, rfl, Same.refl _, fun k hk => absurd hk (Nat.not_lt_zero _)⟩ (fun i σ H' _ ⟨_, _, _, _, _, s, _⟩ => SqT.of (s _ _ (s13 _ _ hT4))) ?_ ?_
    · rintro i u σ H4 hu ⟨u4, u5, u6, u7, rfl, s4, hk⟩
      obtain ⟨kd, hkd, rfl⟩ := str_at hu
      have hi : i < ks.length := (List.getElem?_eq_some_iff.mp hkd).1
      have s14 := s13.trans s4
      obtain ⟨tt, M, e1, e2, tb⟩ := tabs i kd hkd
      obtain ⟨tt', M', e1', e2', tb'⟩ := tabs' i kd hkd
      obtain ⟨rs, hrs, rows⟩ := tb.atM
      obtain ⟨rs', hrs', rows'⟩ := tb'.atM
      have hMe : Ms.getD i [] = M := by
        rw [List.getD_eq_getElem?_getD, e2]
        rfl
      have hMe' : Ms'.getD i [] = M' := by
        rw [List.getD_eq_getElem?_getD, e2']
        rfl
      refine ⟨.ref o, rfl, o, _, rfl, dget (s14 _ _ hO) v5, .str kd, rfl, td, _, rfl, dget (s14 _ _ hTd) e1, .ref o', rfl, o', _, rfl, dget (s14 _ _ hO') v5', .str kd, rfl, td', _, rfl, dget (s14 _ _ hTd') e1', Nat.le_trans (show 2 ≤ 1000 by decide) (by decide), fun tp htp => ?_⟩
      have s5 := s4.trans (same_new (o := .tup [.ref tt, .ref tt']) htp)
      have g5 : (upd H4 tp (.tup [.ref tt, .ref tt'])) tp = some (.tup [.ref tt, .ref tt']) := upd_same
      generalize upd H4 tp (.tup [.ref tt, .ref tt']) = H5 at *
      have s15 := s13.trans s5
      refine ⟨tp, _, rfl, SqT.of g5, rfl, _, _, rfl, _, _, rfl, rfl, ?_⟩
      refine ⟨.ref L, rfl, L, rfl, ⟨_, SqL.of (s5 _ _ gL3)⟩, ?_⟩
      refine for_list (K := K) (a := L) (xs := (List.range m).map fun (i : Nat) => V.int (i : Int)) (fun j σ H' => ∃ u4 : Option V, σ = [some (.ref o), some (.ref o'), some (.ref t), some (.ref L), u4, some (.str kd), some (.ref tt), some (.ref tt'), none] ∧ Same H5 H' ∧
        ∀ a, a < j → ∀ c, c < m → mAt M a c = mAt M' (at0 r a) (at0 r c))
        ⟨_, rfl, Same.refl _, fun k hk => absurd hk (Nat.not_lt_zero _)⟩ (fun j σ H' _ ⟨_, _, s, _⟩ => SqL.of (s _ _ (s5 _ _ gL3))) ?_ ?_
      · rintro j u σ H6 hu ⟨u4, rfl, s6, hj⟩
        obtain ⟨hjm, rfl⟩ := range_at hu
        have s16 := s15.trans s6
        obtain ⟨ra, row, ea, hra, hrow⟩ := rows j hjm
        have haj := at0_lt r3 (i := j) (by omega)
        obtain ⟨ra', row', ea', hra', hrow'⟩ := rows' (at0 r j) haj
        refine ⟨.ref L, rfl, L, rfl, ⟨_, SqL.of (s6 _ _ (s5 _ _ gL3))⟩, fun D hD => ?_⟩
        refine lc_list (K := K) (a := L) (xs := (List.range m).map fun (i : Nat) => V.int (i : Int)) (fun c H' => Same H6 H' ∧ H' D = some (.lst ((rgI (mAt M j) c).map V.int))) ⟨same_new hD, upd_same⟩ (fun i H' _ ⟨s, _⟩ => SqL.of (s _ _ (s6 _ _ (s5 _ _ gL3)))) ?_ ?_
        · rintro c u H7 hu ⟨s7, g7⟩
          obtain ⟨hcm, rfl⟩ := range_at hu
          have s17 := s16.trans s7
          refine ⟨rfl, ?_⟩
          refine ⟨.ref tt, rfl, .int (j : Int), rfl, tt, _, (j : Int), .ref ra, rfl, rfl, SqT.of (s17 _ _ hrs), atI_nat (by rw [List.getElem?_map, ea]; rfl), .int (c : Int), rfl, ra, _, (c : Int), .int (mAt M j c), rfl, rfl, SqT.of (s17 _ _ hra), atI_nat (by rw [List.getElem?_map, hrow c hcm]; rfl), _, g7, ?_, fun b' o' e => ?_, ?_⟩
          · rw [rgI_len]
            exact small1000 (by omega)
          · rw [upd_ne (ne_of_none e hD)]
            exact s7 _ _ e
          · rw [upd_same, rgI_succ]
        rintro H7 ⟨s7, g7⟩
        rw [lL] at g7
        have s17 := s16.trans s7
        refine ⟨.ref L, rfl, L, rfl, ⟨_, SqL.of (s7 _ _ (s6 _ _ (s5 _ _ gL3)))⟩, fun D2 hD2 => ?_⟩
        refine lc_list (K := K) (a := L) (xs := (List.range m).map fun (i : Nat) => V.int (i : Int)) (fun c H' => Same H7 H' ∧ H' D2 = some (.lst ((rgI (fun c => mAt M' (at0 r j) (at0 r c)) c).map V.int))) ⟨same_new hD2, upd_same⟩ (fun i H' _ ⟨s, _⟩ => SqL.of (s _ _ (s7 _ _ (s6 _ _ (s5 _ _ gL3))))) ?_ ?_
        · rintro c u H8 hu ⟨s8, g8⟩
          obtain ⟨hcm, rfl⟩ := range_at hu
          have s18 := s17.trans s8
          have hac := at0_lt r3 (i := c) (by omega)
          refine ⟨rfl, ?_⟩
          refine ⟨.ref tt', rfl, .ref t, rfl, .int (j : Int), rfl, t, _, (j : Int), .int ((at0 r j : Nat) : Int), rfl, rfl, SqT.of (s18 _ _ hT), atI_nat (natV_get (by omega)), tt', _, ((at0 r j : Nat) : Int), .ref ra', rfl, rfl, SqT.of (s18 _ _ hrs'), atI_nat (by rw [List.getElem?_map, ea']; rfl), .ref t, rfl, .int (c : Int), rfl, t, _, (c : Int), .int ((at0 r c : Nat) : Int), rfl, rfl, SqT.of (s18 _ _ hT), atI_nat (natV_get (by omega)), ra', _, ((at0 r c : Nat) : Int), .int (mAt M' (at0 r j) (at0 r c)), rfl, rfl, SqT.of (s18 _ _ hra'), atI_nat (by rw [List.getElem?_map, hrow' _ hac]; rfl), _, g8, ?_, fun b' o' e => ?_, ?_⟩
          · rw [rgI_len]
            exact small1000 (by omega)
          · rw [upd_ne (ne_of_none e hD2)]
            exact s8 _ _ e
          · rw [upd_same, rgI_succ]
        rintro H8 ⟨s8, g8⟩
        rw [lL] at g8
        refine ⟨_, _, .lst (SqL.of (s8 _ _ g7)) (dpi _), .lst (SqL.of g8) (dpi _), shp_ints _, shp_ints _, ?_⟩
        rw [eqv_ints]
        by_cases et : rgI (mAt M j) m = rgI (fun c => mAt M' (at0 r j) (at0 r c)) m
        case neg =>
          rw [decide_eq_false et]
          refine ⟨_, rfl, ?_⟩
          refine iteT ?_
          have e : agB ws ws' Ms Ms' r = false := decide_eq_false fun h => et (rgI_eq.mpr fun c hc => by
            have e := h.2 i (by omega) j (by omega) c (by omega)
            rwa [hMe, hMe'] at e)
          have q := q H8 (s17.trans s8)
          rw [e] at q
          exact q
        case pos =>
        rw [decide_eq_true et]
        refine ⟨_, rfl, ?_⟩
        refine iteF ?_
        refine ⟨_, rfl, (s6.trans s7).trans s8, fun a ha c hc => ?_⟩
        by_cases ej : a = j
        · rw [ej]
          exact rgI_eq.mp et c hc
        · exact hj a (by omega) c hc
      · rintro σ H6 ⟨u4, rfl, s6, hj⟩
        rw [lL] at hj
        refine ⟨_, _, _, _, rfl, s5.trans s6, fun k hk' a ha c hc => ?_⟩
        by_cases ek : k = i
        · rw [ek, hMe, hMe']
          exact hj a ha c hc
        · exact hk k (by omega) a ha c hc
    · rintro σ H4 ⟨u4, u5, u6, u7, rfl, s4, hk⟩
      rw [List.length_map] at hk
      have e : agB ws ws' Ms Ms' r = true := decide_eq_true ⟨fun a ha => rgI_eq.mp ew a (by omega), fun k hk' a ha c hc => hk k (by omega) a (by omega) c (by omega)⟩
      have q := q H4 (s13.trans s4)
      rw [e] at q
      exact q
end
end OG
set_option Elab.async false
set_option linter.all false
set_option maxRecDepth 100000
set_option maxHeartbeats 8000000
namespace OG
open PySem PySem.Spec PyProof.Rows L2
section
variable {P : Program} {w : World} {K : PySem.W.Frag} {mg : Str → Option Value} {base : Heap}
def spLRen (K : PySem.W.Frag) : Sp := fun vs H Q _ => ∃ (o o' : Addr) (b b' : Int) (m m' : Nat) (ms ks ms' : List Str) (ws ws' : List Int) (Ms Ms' : List (List (List Int))), vs = [.ref o, .ref o'] ∧ BookAt H o b m ms ws ks Ms ∧ BkOk b m ms ws ks Ms ∧ BookAt H o' b' m' ms' ws' ks Ms' ∧ BkOk b' m' ms' ws' ks Ms' ∧
  ∀ (t : Addr) (H' : Hp), Same H H' → Dp K H' (.ref t) (.tuple (OGX.sortD (renX m ms' ws ws' Ms Ms' m'))) → Q (.ref t) H'
theorem ok_l_renamings (T : Txt K mg) : FnOk P w K mg base CX0 4 T.f_l_renamings T.fd_l_renamings ["one", "other"] (spLRen K) := by
  refine T.F_l_renamings.ok sc_l_renamings (fun vs H Q E h => ?_) (fun cdv A outer s H vs Q E hr h => ?_)
  · obtain ⟨o, o', _, _, _, _, _, _, _, _, _, _, _, rfl, _⟩ := h
    rfl
  · obtain ⟨o, o', b, b', m, m', ms, ks, ms', ws, ws', Ms, Ms', rfl, hB, ok, hB', ok', q⟩ := h
    refine ⟨_, (pss_cons (ps_if (pt_cmpR op_ne (pe_callB call_len_seq (by rfl) T.n_len PySem.boot_len (pa_cons (pe_dget (hu_of hr) (pv 0) pe_str (fun _ _ => rfl)) pa_nil)) (pe_callB call_len_seq (by rfl) T.n_len PySem.boot_len (pa_cons (pe_dget (hu_of hr) (pv 1) pe_str (fun _ _ => rfl)) pa_nil)) (nomark _)) (pss_one (ps_ret (pe_tup pa_nil))) pss_nil)
  (pss_cons (ps_setLc (i := 2) (own := [("row", 3)]) (g := gName 3) (by rfl) sc_l_renamings.nd rfl rfl (sw_true rfl rfl rfl (by decide +kernel)) (pi_list (pe_call (ok_l_orders T) (hr.mono (by decide)) (by rfl) T.g_l_orders T.F_l_orders.kp T.b_l_orders .nil pass0 (pa_cons (pe_callB call_len_seq (by rfl) T.n_len PySem.boot_len (pa_cons (pe_dget (hu_of hr) (pv 0) pe_str (fun _ _ => rfl)) pa_nil)) pa_nil))) (blkOk_by (own := [("row", 3)]) (by rfl)) (fun _ _ _ _ _ => (pg_name (i := 3) sc_l_renamings.nd rfl (Or.inl rfl))) (fun _ _ _ _ _ => (pts_one (pt_val (pe_call (ok_l_is_renaming T) (hr.mono (by decide)) (by rfl) T.g_l_is_renaming T.F_l_is_renaming.kp T.b_l_is_renaming .nil pass0 (pa_cons (pv 0) (pa_cons (pv 1) (pa_cons (pv 3) pa_nil))))))) (fun _ _ _ _ _ => (pv 3)))
  (pss_one (ps_ret (pe_callTy call_tuple_of (by rfl) T.n_tuple (by decide +kernel) (pa_cons (pe_callB (OGX.cr_sortD hr.units) (by rfl) T.n_sorted (by decide +kernel) (pa_cons (pe_lc (own := [("row", 3)]) (g := gName 3) (by rfl) sc_l_renamings.nd (pi_list (pv 2)) (blkOk_by (own := [("row", 3)]) (by rfl)) (fun _ _ _ _ _ => (pg_name (i := 3) sc_l_renamings.nd rfl (Or.inl rfl))) (fun _ _ _ _ _ => pts_nil) (fun _ _ _ _ _ => (pe_call (ok_l_book_called T) (hr.mono (by decide)) (by rfl) T.g_l_book_called T.F_l_book_called.kp T.b_l_book_called .nil pass0 (pa_cons (pv 1) (pa_cons (pv 3) pa_nil))))) pa_nil)) pa_nil)))))), ?_⟩
    have hml := ok.nm.len
    have hml' := ok'.nm.len
    have hm4 := ok.m4
    have hm1 := ok.m1
    obtain ⟨kvs, tm, tw, tk, td, hO, hl10, v1, v2, hT2, v3, hT3, v4, hT4, v5, tkvs, hTd, tnd, tln, tabs⟩ := id hB
    obtain ⟨kvs', tm', tw', tk', td', hO', hl10', v1', v2', hT2', v3', hT3', v4', hT4', v5', tkvs', hTd', tnd', tln', tabs'⟩ := id hB'
    refine ⟨.ref o, rfl, o, _, rfl, dget hO v2, tm, _, rfl, .inr (SqT.of hT2), .ref o', rfl, o', _, rfl, dget hO' v2', tm', _, rfl, .inr (SqT.of hT2'), rfl, ?_⟩
    rw [List.length_map, List.length_map, hml, hml', show decide (V.int (m : Int) = V.int (m' : Int)) = decide (m = m') from decide_eq_decide.mpr ⟨fun h => by have := V.int.inj h; omega, fun h => by rw [h]⟩]
    by_cases em : m = m'
    case neg =>
      rw [decide_eq_false em]
      refine ⟨_, rfl, ?_⟩
      refine iteT ?_
      refine ⟨Nat.zero_le _, fun t ht => ?_⟩
      refine q t _ (same_new ht) ?_
      unfold renX
      rw [if_neg em, sortD_nil]
      exact .tup (SqT.of upd_same) .nil
    case pos =>
    rw [decide_eq_true em]
    refine ⟨_, rfl, ?_⟩
    refine iteF ?_
    subst em
    refine ⟨.ref o, rfl, o, _, rfl, dget hO v2, tm, _, rfl, .inr (SqT.of hT2), ?_⟩
    rw [List.length_map, hml]
    refine ⟨m, rfl, hm4, fun F fv H1 s1 hF hR => ?_⟩
    refine ⟨F, rfl, ⟨_, SqL.of hF⟩, fun D hD => ?_⟩
    have hlo := ords_len hm4 m hm4
    have horm : ∀ r ∈ ords m m, r ∈ ords m m := fun r h => h
    refine lc_list (K := K) (a := F) (xs := fv) (fun k H' => Same H1 H' ∧ ∃ gv, H' D = some (.lst gv) ∧ IRows H' gv (((ords m m).take k).filter (agB ws ws' Ms Ms'))) ⟨same_new hD, [], upd_same, .nil⟩ (fun k H' _ ⟨s, _⟩ => SqL.of (s _ _ hF)) ?_ ?_
    · rintro k v H2 hv ⟨s2, gv, hgv, hRg⟩
      obtain ⟨r, hr', tp, rfl, htp⟩ := paired_at hR hv
      have s12 := s1.trans s2
      have htp2 := s2 _ _ htp
      refine ⟨rfl, ?_⟩
      refine ⟨.ref o, rfl, .ref o', rfl, .ref tp, rfl, o, o', tp, b, b', m, ms, ks, ms', ws, ws', Ms, Ms', r, rfl, hB.same s12, ok, hB'.same s12, ok', htp2, List.mem_of_getElem? hr', fun H3 s3 => ?_⟩
      refine ⟨_, rfl, ?_⟩
      have ef : ((ords m m).take (k + 1)).filter (agB ws ws' Ms Ms') = ((ords m m).take k).filter (agB ws ws' Ms Ms') ++ [r].filter (agB ws ws' Ms Ms') := by rw [take_more hr', List.filter_append]
      have hgv3 := s3 _ _ hgv
      have hRg3 := hRg.same s3
      cases eb : agB ws ws' Ms Ms' r with
      | false =>
        refine iteF ⟨s2.trans s3, gv, hgv3, ?_⟩
        rw [ef, List.filter_cons, if_neg (by rw [eb]; decide)]
        show IRows H3 gv (_ ++ [])
        rw [List.append_nil]
        exact hRg3
      | true =>
        refine iteT ?_
        refine ⟨.ref tp, rfl, gv, hgv3, ?_, fun b' o e => ?_, gv ++ [.ref tp], upd_same, ?_⟩
        · rw [paired_len hRg3]
          have h1 := List.length_filter_le (agB ws ws' Ms Ms') ((ords m m).take k)
          rw [List.length_take] at h1
          exact small1000 (by omega)
        · rw [upd_ne (ne_of_none e hD)]
          exact s3 _ _ (s2 _ _ e)
        · rw [ef, List.filter_cons, if_pos eb]
          have k1 : IRows (upd H3 D (.lst (gv ++ [.ref tp]))) gv (((ords m m).take k).filter (agB ws ws' Ms Ms')) := hRg3.keep fun t' xs e => by
            rw [upd_ne (fun z => by rw [z, hgv3] at e; cases e)]
            exact e
          refine paired_snoc ⟨tp, rfl, ?_⟩ k1
          rw [upd_ne (fun z => by rw [z] at htp2; rw [htp2] at hgv; cases hgv)]
          exact s3 _ _ htp2
    rintro H2 ⟨s2, gv, hgv, hRg⟩
    rw [paired_len hR, List.take_length] at hRg
    have hRg : IRows H2 gv (fnd ws ws' Ms Ms' m m) := hRg
    have hfl := fnd_len (ws := ws) (ws' := ws') (Ms := Ms) (Ms' := Ms') hm4 hm4
    have hfm : ∀ r ∈ fnd ws ws' Ms Ms' m m, r.length = m ∧ ∀ a ∈ r, a < m := fun r hr => by
      obtain ⟨h1, _, h3⟩ := ords_mem (List.mem_filter.mp hr).1
      exact ⟨h1, h3⟩
    refine ⟨.ref D, rfl, D, rfl, ⟨_, SqL.of hgv⟩, fun D2 hD2 => ?_⟩
    refine lc_list (K := K) (a := D) (xs := gv) (fun k H' => Same H2 H' ∧ ∃ cv, H' D2 = some (.lst cv) ∧ RowsAt H' ms' cv ((fnd ws ws' Ms Ms' m m).take k)) ⟨same_new hD2, [], upd_same, .nil⟩ (fun k H' _ ⟨s, _⟩ => SqL.of (s _ _ hgv)) ?_ ?_
    · rintro k v H3 hv ⟨s3, cv, hcv, hRc⟩
      obtain ⟨r, hr', tp, rfl, htp⟩ := paired_at hRg hv
      obtain ⟨r1, r3⟩ := hfm r (List.mem_of_getElem? hr')
      have s13 := (s1.trans s2).trans s3
      refine ⟨rfl, ?_⟩
      refine ⟨.ref o', rfl, .ref tp, rfl, o', tp, b', m, ms', ks, ws', Ms', r, rfl, hB'.same s13, ok', s3 _ _ htp, by omega, r3, fun p H4 s4 hp => ?_⟩
      have hcv4 := s4 _ _ hcv
      have hRc4 := hRc.same s4
      refine ⟨cv, hcv4, ?_, fun b' o e => ?_, cv ++ [.ref p], upd_same, ?_⟩
      · rw [paired_len hRc4, List.length_take]
        exact small1000 (by omega)
      · rw [upd_ne (ne_of_none e hD2)]
        exact s4 _ _ (s3 _ _ e)
      · rw [take_more hr']
        have k1 : RowsAt (upd H4 D2 (.lst (cv ++ [.ref p]))) ms' cv ((fnd ws ws' Ms Ms' m m).take k) := hRc4.keep fun t' xs e => by
          rw [upd_ne (fun z => by rw [z, hcv4] at e; cases e)]
          exact e
        refine paired_snoc ⟨p, rfl, ?_⟩ k1
        rw [upd_ne (fun z => by rw [z] at hp; rw [hp] at hcv4; cases hcv4)]
        exact hp
    rintro H3 ⟨s3, cv, hcv, hRc⟩
    rw [paired_len hRg, List.take_length] at hRc
    refine ⟨D2, cv, (fnd ws ws' Ms Ms' m m).map (dRow ms'), rfl, SqL.of hcv, dp_rows hRc, ?_, fnd_sortable hm1, ?_, fun yv p hyv hp => ?_⟩
    · have h := renX_alike (m := m) (m' := m) (ms' := ms') (ws := ws) (ws' := ws') (Ms := Ms) (Ms' := Ms')
      unfold renX at h
      rw [if_pos rfl] at h
      exact h
    · intro d hd
      obtain ⟨r, _, rfl⟩ := List.mem_map.mp hd
      unfold dRow
      simp only [PyData.depth, dep_strs]
      decide
    · have sp := same_new (o := .lst yv) hp
      refine ⟨p, yv, rfl, .inl ⟨SqL.of upd_same, fun t ht => ?_⟩⟩
      have st := same_new (o := .tup yv) ht
      refine q t _ ((((s1.trans s2).trans s3).trans sp).trans st) ?_
      unfold renX
      rw [if_pos rfl]
      exact .tup (SqT.of upd_same) (DpAll.same (sp.trans st) hyv)
end
end OG
set_option Elab.async false
set_option linter.all false
set_option maxRecDepth 100000
set_option maxHeartbeats 8000000
namespace OG
open PySem PySem.Spec PyProof.Rows L2
theorem nd_sub {α : Type} [DecidableEq α] : ∀ {l k : List α}, l.Nodup → (∀ x ∈ l, x ∈ k) → l.length ≤ k.length
  | [], _, _, _ => Nat.zero_le _
  | x :: l, k, nd, h => by
    rw [List.nodup_cons] at nd
    have hx := h x List.mem_cons_self
    have e := nd_sub (k := k.erase x) nd.2 fun y hy => (List.mem_erase_of_ne (fun z => nd.1 (by rw [← z]; exact hy))).mpr (h y (List.mem_cons_of_mem _ hy))
    rw [List.length_erase_of_mem hx] at e
    have := List.length_pos_of_mem hx
    rw [List.length_cons]
    omega
theorem ifs_two {c : TT} {t u : TS} {D : Ends} {σ : L2.St} {H : Hp} (R1 R2 : Hp → Prop) (ht : ∀ H', R1 H' → t D σ H') (he : ∀ H', R2 H' → u D σ H') (h : (∀ H', R1 H' → t D σ H') → (∀ H', R2 H' → u D σ H') → c σ H fun b H1 => if b = true then t D σ H1 else u D σ H1) : tIfS c t u D σ H := h ht he
theorem filt_take {α : Type} {l : List α} {p : α → Bool} {i : Nat} {x : α} (h : l[i]? = some x) : (l.take (i + 1)).filter p = (l.take i).filter p ++ (if p x = true then [x] else []) := by
  rw [take_more h, List.filter_append, List.filter_cons]
  rfl
theorem sx1 {n d : Nat} (h : 1 ≤ n) : HT.sIx n d (some 1) = 1 := by
  rw [show (1 : Int) = ((1 : Nat) : Int) from rfl, HT.sIx_nat]
  omega
theorem sxm {n d : Nat} (h : 1 ≤ n) : HT.sIx n d (some (-1)) = n - 1 := by
  show (if (-1 : Int) < 0 then ((-1 : Int) + (n : Int)).toNat else min (-1 : Int).toNat n) = n - 1
  rw [if_pos (by decide)]
  omega
theorem cut_rest {ks : List Str} (h : 1 ≤ ks.length) : cutV (ks.map V.str) (some 1) none = (ks.drop 1).map V.str := by
  unfold cutV
  rw [List.length_map, sx1 h, HT.sIx_none, ← List.map_drop, ← List.map_take, List.take_of_length_le (by rw [List.length_drop]; exact Nat.le_refl _)]
theorem cut_one1 {ks : List Str} (h : 1 ≤ ks.length) : cutV (ks.map V.str) none (some 1) = (ks.take 1).map V.str := by
  unfold cutV
  rw [List.length_map, sx1 h, HT.sIx_none, List.drop_zero, Nat.sub_zero, ← List.map_take]
theorem cut_last {ks : List Str} (h : 1 ≤ ks.length) : cutV (ks.map V.str) none (some (-1)) = ks.dropLast.map V.str := by
  unfold cutV
  rw [List.length_map, sxm h, HT.sIx_none, List.drop_zero, Nat.sub_zero, ← List.map_take, List.dropLast_eq_take]
section
variable {P : Program} {w : World} {K : PySem.W.Frag} {mg : Str → Option Value} {base : Heap}
def spOsort : Sp := fun vs H Q _ => ∃ (p o : Addr) (b : Int) (m k : Nat) (ms ks : List Str) (ws : List Int) (Ms : List (List (List Int))), vs = [.ref p, .ref o] ∧ Pot (k + 600) H p ∧ BookAt H o b m ms ws ks Ms ∧ BkOk b m ms ws ks Ms ∧ (b = 0 ∨ b ∈ primesL) ∧
  ∀ (q : Addr) (b2 : Int) (m2 : Nat) (ms2 ks2 : List Str) (ws2 : List Int) (Ms2 : List (List (List Int))) (H' : Hp), Dr p k H H' → BookAt H' q b2 m2 ms2 ws2 ks2 Ms2 → BkOk b2 m2 ms2 ws2 ks2 Ms2 → (b2 = 0 ∨ b2 ∈ primesL) → ¬(b2 = b ∧ ks2 = ks) → Q (.ref q) H'
theorem ok_l_other_sort (T : Txt K mg) : FnOk P w K mg base CX0 5 T.f_l_other_sort T.fd_l_other_sort ["pot", "own"] (spOsort) := by
  refine T.F_l_other_sort.ok sc_l_other_sort (fun vs H Q E h => ?_) (fun cdv A outer s H vs Q E hr h => ?_)
  · obtain ⟨p, o, _, _, _, _, _, _, _, rfl, _⟩ := h
    rfl
  · obtain ⟨p, o, b, m, k, ms, ks, ws, Ms, rfl, hP, hB, ok, hb, q⟩ := h
    refine ⟨_, (pss_cons (ps_asg (pe_tup (pa_cons (pe_dget (hu_of hr) (pv 1) pe_str (fun _ _ => rfl)) (pa_cons (pe_dget (hu_of hr) (pv 1) pe_str (fun _ _ => rfl)) (pa_cons (pe_call (ok_l_take T) (hr.mono (by decide)) (by rfl) T.g_l_take T.F_l_take.kp T.b_l_take .nil pass0 (pa_cons (pv 0) (pa_cons pe_int pa_nil))) pa_nil)))) (pg_tup (by rfl) (pgs_cons (pg_name (i := 2) sc_l_other_sort.nd rfl (Or.inr rfl)) (pgs_cons (pg_name (i := 3) sc_l_other_sort.nd rfl (Or.inr rfl)) (pgs_cons (pg_name (i := 4) sc_l_other_sort.nd rfl (Or.inl rfl)) pgs_nil)))))
  (pss_cons (ps_if (PW.pt (pw_or (pt_cmpR op_eq (pv 4) pe_int (nomark _)) (pw_or1 (PW.pt (pw_and (pt_cmpR op_eq (pe_callB call_len_seq (by rfl) T.n_len PySem.boot_len (pa_cons (pv 2) pa_nil)) pe_int (nomark _)) (pw_and1 (pt_cmpR op_eq (pv 4) pe_int (nomark _)))))))) (pss_one (ps_ret (pe_call (ok_l_book_of T) (hr.mono (by decide)) (by rfl) T.g_l_book_of T.F_l_book_of.kp T.b_l_book_of .nil pass0 (pa_cons (pv 0) (pa_cons (pe_call (ok_l_of T) (hr.mono (by decide)) (by rfl) T.g_l_of T.F_l_of.kp T.b_l_of .nil pass0 (pa_cons (pv 0) (pa_cons (pe_lc (own := [("one", 6)]) (g := gName 6) (by rfl) sc_l_other_sort.nd (pi_list (pe_lst (pa_cons pe_int (pa_cons pe_int (pa_cons pe_int (pa_cons pe_int (pa_cons pe_int pa_nil))))))) (blkOk_by (own := [("one", 6)]) (by rfl)) (fun _ _ _ _ _ => (pg_name (i := 6) sc_l_other_sort.nd rfl (Or.inl rfl))) (fun _ _ _ _ _ => (pts_one (pt_cmpR op_ne (pv 6) (pv 3) (nomark _)))) (fun _ _ _ _ _ => (pv 6))) pa_nil))) (pa_cons pe_int (pa_cons (pv 2) (pa_cons pe_bl pa_nil)))))))) pss_nil)
  (pss_cons (ps_if (pt_cmpR op_eq (pv 4) pe_int (nomark _)) (pss_one (ps_ret (pe_call (ok_l_book_of T) (hr.mono (by decide)) (by rfl) T.g_l_book_of T.F_l_book_of.kp T.b_l_book_of .nil pass0 (pa_cons (pv 0) (pa_cons (pv 3) (pa_cons pe_int (pa_cons (pe_op op_catA (pe_slice sl_tupA (pv 2) (po_some pe_int) po_none) (pe_slice sl_tupA (pv 2) po_none (po_some pe_int))) (pa_cons pe_bl pa_nil)))))))) pss_nil)
  (pss_cons (ps_if (PW.pt (pw_and (pt_cmpR op_eq (pv 4) pe_int (nomark _)) (pw_and1 (pt_cmpR op_gt (pe_callB call_len_seq (by rfl) T.n_len PySem.boot_len (pa_cons (pv 2) pa_nil)) pe_int (nomark _))))) (pss_one (ps_ret (pe_call (ok_l_book_of T) (hr.mono (by decide)) (by rfl) T.g_l_book_of T.F_l_book_of.kp T.b_l_book_of .nil pass0 (pa_cons (pv 0) (pa_cons (pv 3) (pa_cons (pe_callB call_len_seq (by rfl) T.n_len PySem.boot_len (pa_cons (pe_dget (hu_of hr) (pv 1) pe_str (fun _ _ => rfl)) pa_nil)) (pa_cons (pe_slice sl_tupA (pv 2) po_none (po_some (pe_un un_neg pe_int))) (pa_cons pe_bl pa_nil)))))))) pss_nil)
  (pss_cons (ps_setLc (i := 5) (own := [("one", 6)]) (g := gName 6) (by rfl) sc_l_other_sort.nd rfl rfl (sw_true rfl rfl rfl (by decide +kernel)) (pi_list (pe_lst (pa_cons pe_str (pa_cons pe_str (pa_cons pe_str (pa_cons pe_str pa_nil)))))) (blkOk_by (own := [("one", 6)]) (by rfl)) (fun _ _ _ _ _ => (pg_name (i := 6) sc_l_other_sort.nd rfl (Or.inl rfl))) (fun _ _ _ _ _ => (pts_one (pt_cmpR (op_notIn_seqK K) (pv 6) (pv 2) rfl))) (fun _ _ _ _ _ => (pv 6)))
  (pss_one (ps_ret (pe_call (ok_l_book_of T) (hr.mono (by decide)) (by rfl) T.g_l_book_of T.F_l_book_of.kp T.b_l_book_of .nil pass0 (pa_cons (pv 0) (pa_cons (pv 3) (pa_cons (pe_callB call_len_seq (by rfl) T.n_len PySem.boot_len (pa_cons (pe_dget (hu_of hr) (pv 1) pe_str (fun _ _ => rfl)) pa_nil)) (pa_cons (pe_op op_catA (pe_slice sl_tupA (pv 2) po_none (po_some (pe_un un_neg pe_int))) (pe_tup (pa_cons (pe_call (ok_l_of T) (hr.mono (by decide)) (by rfl) T.g_l_of T.F_l_of.kp T.b_l_of .nil pass0 (pa_cons (pv 0) (pa_cons (pv 5) pa_nil))) pa_nil))) (pa_cons pe_bl pa_nil))))))))))))), ?_⟩
    have hml := ok.nm.len
    have hk1 := ok.k1
    have hk3 := ok.k3
    have hm1 := ok.m1
    have hm4 := ok.m4
    have wide : ∀ {n : Nat}, n ≤ 1000 → n ≤ sizeLine := fun h => Nat.le_trans h (by decide)
    obtain ⟨kvs, tm, tw, tk, td, hO, hl10, v1, v2, hT2, v3, hT3, v4, hT4, v5, tkvs, hTd, tnd, tln, tabs⟩ := id hB
    refine ⟨.ref o, rfl, o, _, rfl, dget hO v4, .ref o, rfl, o, _, rfl, dget hO v1, .ref p, rfl, p, 4, k + 599, rfl, hP, by decide, by decide, fun way H1 w0 w4 d1 => ?_⟩
    refine ⟨wide (show 3 ≤ 1000 by decide), fun tp htp => ?_⟩
    have d2 : Dr p (k + 599) H (upd H1 tp (.tup [.ref tk, .int b, .int way])) := d1.new htp
    have g2 : (upd H1 tp (.tup [.ref tk, .int b, .int way])) tp = some (.tup [.ref tk, .int b, .int way]) := upd_same
    generalize upd H1 tp (.tup [.ref tk, .int b, .int way]) = H2 at *
    refine ⟨tp, _, rfl, SqT.of g2, rfl, _, _, rfl, _, _, rfl, _, _, rfl, rfl, ?_⟩
    have fin : ∀ (b2 : Int) (m2 : Nat) (kk : Addr) (ks2 : List Str) (H3 : Hp), Dr p (k + 500) H H3 → 0 ≤ b2 → b2 ≠ 1 → b2 ≤ 97 → 1 ≤ m2 → m2 ≤ 4 → H3 kk = some (.tup (ks2.map V.str)) → Nms ks2 ks2.length → 1 ≤ ks2.length → ks2.length ≤ 3 → (b2 = 0 ∨ b2 ∈ primesL) → ¬(b2 = b ∧ ks2 = ks) →
        spBof [.ref p, .int b2, .int (m2 : Int), .ref kk, .bl false] H3 Q E0 := fun b2 m2 kk ks2 H3 d3 h0 h1 h97 hm hm' hkk hn hn1 hn3 hb2 hne =>
      ⟨p, kk, b2, m2, k, false, ks2, rfl, d3.2, h0, h1, h97, hm, hm', hkk, hn, hn1, hn3, fun q0 ms2 ws2 Ms2 H' d' _ _ bk ok2 => q q0 b2 m2 ms2 ks2 ws2 Ms2 H' (d3.trans d') bk ok2 hb2 hne⟩
    have hT4' : H2 tk = some (.tup (ks.map V.str)) := d2.st (hP.neT hT4) hT4
    have hO2 : H2 o = some (.dK kvs) := d2.st (hP.neD hO) hO
    have hT22 : H2 tm = some (.tup (ms.map V.str)) := d2.st (hP.neT hT2) hT2
    dsimp only [tSeq]
    have nm_of : ∀ {l : List Str}, l.length ≤ 3 → l.Nodup → (∀ z ∈ l, IsNm z) → Nms l l.length := fun _ h1 h2 => ⟨rfl, h1, h2⟩
    refine ifs_two (fun H' => H' = H2 ∧ (way = 0 ∨ (ks.length = 1 ∧ way = 1))) (fun H' => H' = H2 ∧ ¬(way = 0 ∨ (ks.length = 1 ∧ way = 1))) ?_ ?_ ?_
    · rintro H' ⟨rfl, _⟩
      refine ⟨.ref p, rfl, .ref p, rfl, wide (show 5 ≤ 1000 by decide), fun l hl => ⟨l, rfl, ⟨_, SqL.of upd_same⟩, fun D hD => ?_⟩⟩
      have dl := d2.new (o := .lst [.int 0, .int 2, .int 3, .int 5, .int 97]) hl
      have gl : (upd H' l (.lst [.int 0, .int 2, .int 3, .int 5, .int 97])) l = some (.lst (([0, 2, 3, 5, 97] : List Int).map V.int)) := upd_same
      have sl := same_new (o := .lst [.int 0, .int 2, .int 3, .int 5, .int 97]) hl
      generalize upd H' l (.lst [.int 0, .int 2, .int 3, .int 5, .int 97]) = H3 at *
      refine lc_list (K := K) (a := l) (xs := ([0, 2, 3, 5, 97] : List Int).map V.int) (fun i H' => Same H3 H' ∧ H' D = some (.lst (((([0, 2, 3, 5, 97] : List Int).take i).filter fun z => !decide (z = b)).map V.int))) ⟨same_new hD, upd_same⟩ (fun i H' _ ⟨s, _⟩ => SqL.of (s _ _ gl)) ?_ ?_
      · rintro i v H4 hv ⟨s4, g4⟩
        obtain ⟨z, hz, rfl⟩ := at_of hv
        obtain ⟨j, hj⟩ : ∃ j, ([0, 2, 3, 5, 97] : List Int)[i]? = some j ∧ j = z := by
          rw [List.getElem?_map] at hv
          cases e : ([0, 2, 3, 5, 97] : List Int)[i]? with
          | none =>
            rw [e] at hv
            cases hv
          | some j =>
            rw [e] at hv
            exact ⟨j, rfl, V.int.inj (Option.some.inj hv)⟩
        obtain ⟨hj, rfl⟩ := hj
        have hi5 : i < 5 := (List.getElem?_eq_some_iff.mp hj).1
        refine ⟨rfl, ?_⟩
        refine ⟨.int j, rfl, .int b, rfl, rfl, _, rfl, ?_⟩
        rw [show decide (V.int j = V.int b) = decide (j = b) from decide_eq_decide.mpr ⟨V.int.inj, congrArg V.int⟩]
        have ef := filt_take (p := fun z => !decide (z = b)) hj
        by_cases e : j = b
        · rw [decide_eq_true e]
          refine iteF ⟨s4, ?_⟩
          rw [ef, if_neg (by rw [decide_eq_true e]; decide), List.append_nil]
          exact g4
        · rw [decide_eq_false e]
          refine iteT ?_
          refine ⟨.int j, rfl, _, g4, ?_, fun b' o' e' => ?_, ?_⟩
          · rw [List.length_map]
            refine small1000 (Nat.le_trans (List.length_filter_le _ _) ?_)
            rw [List.length_take]
            show min i 5 ≤ 1000
            omega
          · rw [upd_ne (ne_of_none e' hD)]
            exact s4 _ _ e'
          · rw [upd_same, ef, if_pos (by rw [decide_eq_false e]; rfl), List.map_append]
            rfl
      · rintro H4 ⟨s4, g4⟩
        have d4 := dl.sm s4
        have g4 : H4 D = some (.lst ((([0, 2, 3, 5, 97] : List Int).filter fun z => !decide (z = b)).map V.int)) := g4
        have pos : 0 < ((([0, 2, 3, 5, 97] : List Int).filter fun z => !decide (z = b)).map V.int).length := by
          rw [List.length_map]
          by_cases e : b = 0
          · exact List.length_pos_of_mem (a := (2 : Int)) (List.mem_filter.mpr ⟨by decide, by rw [e]; decide⟩)
          · exact List.length_pos_of_mem (a := (0 : Int)) (List.mem_filter.mpr ⟨by decide, by rw [decide_eq_false fun z => e z.symm]; rfl⟩)
        refine ⟨p, D, _, k + 598, rfl, d4.2, SqL.of g4, dl.2.ne hD, pos, ?_, fun i x H5 hx d5 => ?_⟩
        · rw [List.length_map]
          exact Nat.lt_of_le_of_lt (List.length_filter_le _ _) (by decide)
        obtain ⟨z, hz, rfl⟩ := at_of hx
        obtain ⟨hz1, hz2⟩ := List.mem_filter.mp hz
        have hzb : z ≠ b := by
          intro e
          rw [decide_eq_true e] at hz2
          cases hz2
        have hz3 : (0 ≤ z ∧ z ≠ 1 ∧ z ≤ 97) ∧ (z = 0 ∨ z ∈ primesL) := by
          simp only [List.mem_cons, List.mem_nil_iff, or_false] at hz1
          rcases hz1 with rfl | rfl | rfl | rfl | rfl <;> exact ⟨by decide, by decide⟩
        have d45 := d4.trans d5
        have hk5 : H5 tk = some (.tup (ks.map V.str)) := d45.st (hP.neT hT4) hT4
        refine ⟨.ref tk, rfl, ?_⟩
        exact fin z 2 tk ks H5 (d45.mono (by omega)) hz3.1.1 hz3.1.2.1 hz3.1.2.2 (by decide) (by decide) hk5 (nm_of hk3 ok.nk.nd ok.nk.is) hk1 hk3 hz3.2 (fun e => hzb e.1)
    · rintro H' ⟨rfl, hn⟩
      have e0 : way ≠ 0 := fun z => hn (.inl z)
      dsimp only [tNext, tSeq]
      refine ⟨.int way, rfl, rfl, _, rfl, ?_⟩
      have lks : (ks.map V.str).length = ks.length := List.length_map ..
      by_cases e1 : way = 1
      · have l2 : 2 ≤ ks.length := by
          have : ks.length ≠ 1 := fun z => hn (.inr ⟨z, e1⟩)
          omega
        rw [show decide (V.int way = V.int 1) = true from decide_eq_true (by rw [e1])]
        refine iteT ?_
        refine ⟨.ref p, rfl, .int b, rfl, .ref tk, rfl, 1, rfl, tk, _, rfl, SqT.of hT4', fun h => ?_, fun _ a1 ha1 => ?_⟩
        · have := h.1
          rw [lks, sx1 hk1] at this
          cases this
        rw [cut_rest hk1]
        have da := d2.new (o := .tup ((ks.drop 1).map V.str)) ha1
        have ga : (upd H' a1 (.tup ((ks.drop 1).map V.str))) a1 = some (.tup ((ks.drop 1).map V.str)) := upd_same
        have hT4a := same_new (o := .tup ((ks.drop 1).map V.str)) ha1 _ _ hT4'
        generalize upd H' a1 (.tup ((ks.drop 1).map V.str)) = H3 at *
        refine ⟨.ref tk, rfl, 1, rfl, tk, _, rfl, SqT.of hT4a, fun h => ?_, fun _ a2 ha2 => ?_⟩
        · have := h.2
          rw [lks, sx1 hk1] at this
          omega
        rw [cut_one1 hk1]
        have db := da.new (o := .tup ((ks.take 1).map V.str)) ha2
        have gb : (upd H3 a2 (.tup ((ks.take 1).map V.str))) a2 = some (.tup ((ks.take 1).map V.str)) := upd_same
        have ga2 := same_new (o := .tup ((ks.take 1).map V.str)) ha2 _ _ ga
        generalize upd H3 a2 (.tup ((ks.take 1).map V.str)) = H4 at *
        have pm : (ks.drop 1 ++ ks.take 1).Perm ks := by
          have := List.perm_append_comm (l₁ := ks.drop 1) (l₂ := ks.take 1)
          rwa [List.take_append_drop] at this
        have ne1 : (ks.drop 1).map V.str ≠ [] := fun z => by
          have := congrArg List.length z
          rw [List.length_map, List.length_drop] at this
          simp only [List.length_nil] at this
          omega
        have ne2 : (ks.take 1).map V.str ≠ [] := fun z => by
          have := congrArg List.length z
          rw [List.length_map, List.length_take] at this
          simp only [List.length_nil] at this
          omega
        refine ⟨a1, a2, _, _, rfl, rfl, SqT.of ga2, SqT.of gb, ?_, fun z => absurd z ne1, fun _ z => absurd z ne2, fun _ _ a3 ha3 => ?_⟩
        · rw [List.length_map, List.length_map, List.length_drop, List.length_take]
          exact wide (by omega)
        refine fin b 2 a3 (ks.drop 1 ++ ks.take 1) _ ((db.new ha3).mono (by omega)) ok.b0 ok.b1 ok.b97 (by decide) (by decide) (by rw [upd_same, List.map_append]) (nm_of (by rw [pm.length_eq]; exact hk3) (pm.nodup_iff.mpr ok.nk.nd) fun z hz => ok.nk.is z (pm.mem_iff.mp hz)) (by rw [pm.length_eq]; exact hk1) (by rw [pm.length_eq]; exact hk3) hb fun e => ?_
        have e := e.2
        have nd := ok.nk.nd
        match ks, l2, e, nd with
        | k0 :: k1 :: r, _, e, nd =>
          have e : k1 :: (r ++ [k0]) = k0 :: k1 :: r := e
          have e := (List.cons.inj e).1
          rw [e, List.nodup_cons] at nd
          exact nd.1 List.mem_cons_self
      · rw [show decide (V.int way = V.int 1) = false from decide_eq_false fun z => e1 (V.int.inj z)]
        refine iteF ?_
        dsimp only [tNext, tSeq]
        refine ifs_two (fun H3 => H3 = H' ∧ 1 < ks.length) (fun H3 => H3 = H') ?_ ?_ ?_
        · rintro H3 ⟨rfl, l2⟩
          refine ⟨.ref p, rfl, .int b, rfl, .ref o, rfl, o, _, rfl, dget hO2 v2, tm, _, rfl, .inr (SqT.of hT22), ?_⟩
          rw [List.length_map, hml]
          refine ⟨.ref tk, rfl, 1, rfl, -1, rfl, tk, _, rfl, SqT.of hT4', fun h => ?_, fun _ a1 ha1 => ?_⟩
          · have := h.2
            rw [lks, sxm hk1] at this
            omega
          rw [cut_last hk1]
          have ld : ks.dropLast.length = ks.length - 1 := List.length_dropLast ..
          refine fin b m a1 ks.dropLast _ ((d2.new ha1).mono (by omega)) ok.b0 ok.b1 ok.b97 hm1 hm4 upd_same (nm_of (by omega) (ok.nk.nd.sublist (List.dropLast_sublist _)) fun z hz => ok.nk.is z (List.dropLast_subset _ hz)) (by omega) (by omega) hb fun e => ?_
          have e := congrArg List.length e.2
          omega
        · rintro H3 rfl
          dsimp only [tNext, tSeq]
          refine ⟨wide (show 4 ≤ 1000 by decide), fun l hl => ⟨l, rfl, ⟨_, SqL.of upd_same⟩, fun D hD => ?_⟩⟩
          have dl := d2.new (o := .lst [.str "x", .str "y", .str "z", .str "w"]) hl
          have gl : (upd H3 l (.lst [.str "x", .str "y", .str "z", .str "w"])) l = some (.lst ((["x", "y", "z", "w"] : List Str).map V.str)) := upd_same
          have sl := same_new (o := .lst [.str "x", .str "y", .str "z", .str "w"]) hl
          generalize upd H3 l (.lst [.str "x", .str "y", .str "z", .str "w"]) = H4 at *
          have hT4l := sl _ _ hT4'
          refine lc_list (K := K) (a := l) (xs := (["x", "y", "z", "w"] : List Str).map V.str) (fun i H' => Same H4 H' ∧ H' D = some (.lst (((["x", "y", "z", "w"] : List Str).take i).filter (fun z => !decide (z ∈ ks)) |>.map V.str))) ⟨same_new hD, upd_same⟩ (fun i H' _ ⟨s, _⟩ => SqL.of (s _ _ gl)) ?_ ?_
          · rintro i v H5 hv ⟨s5, g5⟩
            obtain ⟨z, hz, rfl⟩ := str_at hv
            have hi4 : i < 4 := (List.getElem?_eq_some_iff.mp hz).1
            refine ⟨rfl, ?_⟩
            refine ⟨.str z, rfl, .ref tk, rfl, tk, _, rfl, .inr (SqT.of (s5 _ _ hT4l)), rfl, flat_strs _, ?_⟩
            rw [inV_str]
            refine ⟨_, rfl, ?_⟩
            have ef := filt_take (p := fun z => !decide (z ∈ ks)) hz
            by_cases e : z ∈ ks
            · rw [decide_eq_true e]
              refine iteF ⟨s5, ?_⟩
              rw [ef, if_neg (by rw [decide_eq_true e]; decide), List.append_nil]
              exact g5
            · rw [decide_eq_false e]
              refine iteT ?_
              refine ⟨.str z, rfl, _, g5, ?_, fun b' o' e' => ?_, ?_⟩
              · rw [List.length_map]
                refine small1000 (Nat.le_trans (List.length_filter_le _ _) ?_)
                rw [List.length_take]
                show min i 4 ≤ 1000
                omega
              · rw [upd_ne (ne_of_none e' hD)]
                exact s5 _ _ e'
              · rw [upd_same, ef, if_pos (by rw [decide_eq_false e]; rfl), List.map_append]
                rfl
          · rintro H5 ⟨s5, g5⟩
            have g5 : H5 D = some (.lst (((["x", "y", "z", "w"] : List Str).filter fun z => !decide (z ∈ ks)).map V.str)) := g5
            have d5 := dl.sm s5
            have nDp := dl.2.ne hD
            have pos : 0 < (((["x", "y", "z", "w"] : List Str).filter fun z => !decide (z ∈ ks)).map V.str).length := by
              rw [List.length_map]
              refine Nat.pos_of_ne_zero fun z => ?_
              have z := List.eq_nil_of_length_eq_zero z
              have h := nd_sub (l := (["x", "y", "z", "w"] : List Str)) (k := ks) (by decide +kernel) fun y hy => by
                have h := List.filter_eq_nil_iff.mp z y hy
                simpa using h
              have h : 4 ≤ ks.length := h
              omega
            obtain ⟨fr, hfr⟩ : ∃ fr, fr = ((["x", "y", "z", "w"] : List Str).filter fun z => !decide (z ∈ ks)) := ⟨_, rfl⟩
            rw [← hfr] at g5 pos
            have lfr : fr.length ≤ 4 := by
              rw [hfr]
              exact List.length_filter_le _ _
            refine ⟨.ref p, rfl, .int b, rfl, .ref o, rfl, o, _, rfl, dget (s5 _ _ (sl _ _ hO2)) v2, tm, _, rfl, .inr (SqT.of (s5 _ _ (sl _ _ hT22))), ?_⟩
            rw [List.length_map, hml]
            refine ⟨.ref tk, rfl, 1, rfl, -1, rfl, tk, _, rfl, SqT.of (s5 _ _ hT4l), fun h => ?_, fun _ a1 ha1 => ?_⟩
            · have := h.2
              rw [lks, sxm hk1] at this
              omega
            rw [cut_last hk1]
            have ld : ks.dropLast.length = ks.length - 1 := List.length_dropLast ..
            have d6 := d5.new (o := .tup (ks.dropLast.map V.str)) ha1
            have g6 : (upd H5 a1 (.tup (ks.dropLast.map V.str))) a1 = some (.tup (ks.dropLast.map V.str)) := upd_same
            have g5' := same_new (o := .tup (ks.dropLast.map V.str)) ha1 _ _ g5
            have np := d5.2.ne ha1
            generalize upd H5 a1 (.tup (ks.dropLast.map V.str)) = H6 at *
            refine ⟨.ref p, rfl, .ref D, rfl, p, D, _, k + 598, rfl, d6.2, SqL.of g5', nDp, pos, by rw [List.length_map]; omega, fun i x H7 hx d7 => ?_⟩
            obtain ⟨f, hf, rfl⟩ := str_at hx
            have hf := List.mem_of_getElem? hf
            rw [hfr] at hf
            obtain ⟨hf1, hf2⟩ := List.mem_filter.mp hf
            have hfk : f ∉ ks := by simpa using hf2
            have hfn : IsNm f := by
              have h : ∀ z ∈ (["x", "y", "z", "w"] : List Str), 1 ≤ z.length ∧ z.length ≤ 4 ∧ ∀ c ∈ z.cps.toList, c ∈ abc := by decide +kernel
              exact h f hf1
            have d67 := d6.trans d7
            refine ⟨Nat.le_trans (show 1 ≤ 1000 by decide) (by decide), fun a2 ha2 => ?_⟩
            have d8 := d67.new (o := .tup [.str f]) ha2
            have g8 : (upd H7 a2 (.tup [.str f])) a2 = some (.tup [.str f]) := upd_same
            have g68 := same_new (o := .tup [.str f]) ha2 _ _ (d7.st np g6)
            generalize upd H7 a2 (.tup [.str f]) = H8 at *
            have nks : Nms (ks.dropLast ++ [f]) (ks.dropLast ++ [f]).length := by
              refine nm_of (by rw [List.length_append, ld]; show ks.length - 1 + 1 ≤ 3; omega) ?_ fun z hz => ?_
              · rw [List.nodup_append]
                refine ⟨ok.nk.nd.sublist (List.dropLast_sublist _), by simp, fun y hy y' hy' e => ?_⟩
                rw [List.mem_singleton.mp hy'] at e
                rw [e] at hy
                exact hfk (List.dropLast_subset _ hy)
              · rcases List.mem_append.mp hz with hz | hz
                · exact ok.nk.is z (List.dropLast_subset _ hz)
                · rw [List.mem_singleton.mp hz]
                  exact hfn
            have l9 : (ks.dropLast ++ [f]).length = ks.length - 1 + 1 := by rw [List.length_append, ld]; rfl
            have hne : ¬(b = b ∧ ks.dropLast ++ [f] = ks) := fun e => hfk (by
              have h : f ∈ ks.dropLast ++ [f] := List.mem_append.mpr (.inr List.mem_cons_self)
              rwa [e.2] at h)
            refine ⟨a1, a2, _, _, rfl, rfl, SqT.of g68, SqT.of g8, ?_, fun e => ?_, fun _ e => (by cases e), fun _ _ a3 ha3 => ?_⟩
            · rw [List.length_map, ld]
              exact wide (show ks.length - 1 + 1 ≤ 1000 by omega)
            · refine fin b m a2 (ks.dropLast ++ [f]) _ (d8.mono (by omega)) ok.b0 ok.b1 ok.b97 hm1 hm4 ?_ nks (by omega) (by omega) hb hne
              rw [List.map_append, e]
              exact g8
            · refine fin b m a3 (ks.dropLast ++ [f]) _ ((d8.new ha3).mono (by omega)) ok.b0 ok.b1 ok.b97 hm1 hm4 ?_ nks (by omega) (by omega) hb hne
              rw [upd_same, List.map_append]
              rfl
        · intro ht he
          refine ⟨.int way, rfl, rfl, _, rfl, ?_⟩
          by_cases e2 : way = 2
          · rw [show decide (V.int way = V.int 2) = true from decide_eq_true (by rw [e2])]
            refine iteT ?_
            refine ⟨.ref tk, rfl, tk, _, rfl, .inr (SqT.of hT4'), _, _, rfl, rfl, _, rfl, ?_⟩
            rw [lks]
            by_cases l2 : 1 < ks.length
            · rw [decide_eq_true (show (1 : Int) < (ks.length : Int) by omega)]
              exact iteT (ht _ ⟨rfl, l2⟩)
            · rw [decide_eq_false (show ¬ (1 : Int) < (ks.length : Int) by omega)]
              exact iteF (he _ rfl)
          · rw [show decide (V.int way = V.int 2) = false from decide_eq_false fun z => e2 (V.int.inj z)]
            exact iteF (he _ rfl)
    · intro ht he
      refine ⟨.int way, rfl, rfl, _, rfl, ?_⟩
      by_cases e0 : way = 0
      · rw [show decide (V.int way = V.int 0) = true from decide_eq_true (by rw [e0])]
        refine iteT ?_
        exact iteT (ht _ ⟨rfl, .inl e0⟩)
      · rw [show decide (V.int way = V.int 0) = false from decide_eq_false fun z => e0 (V.int.inj z)]
        refine iteF ?_
        refine ⟨.ref tk, rfl, tk, _, rfl, .inr (SqT.of hT4'), rfl, _, rfl, ?_⟩
        rw [List.length_map]
        by_cases e1 : ks.length = 1
        · rw [show decide (V.int (ks.length : Int) = V.int 1) = true from decide_eq_true (by rw [e1]; rfl)]
          refine iteT ?_
          refine ⟨.int way, rfl, rfl, _, rfl, ?_⟩
          by_cases e2 : way = 1
          · rw [show decide (V.int way = V.int 1) = true from decide_eq_true (by rw [e2])]
            exact iteT (ht _ ⟨rfl, .inr ⟨e1, e2⟩⟩)
          · rw [show decide (V.int way = V.int 1) = false from decide_eq_false fun z => e2 (V.int.inj z)]
            exact iteF (he _ ⟨rfl, fun z => z.elim e0 fun z => e2 z.2⟩)
        · rw [show decide (V.int (ks.length : Int) = V.int 1) = false from decide_eq_false fun z => e1 (by have := V.int.inj z; omega)]
          refine iteF ?_
          exact iteF (he _ ⟨rfl, fun z => z.elim e0 fun z => e1 z.1⟩)
end
end OG
set_option Elab.async false
set_option linter.all false
set_option maxRecDepth 100000
set_option maxHeartbeats 4000000
namespace OGX
open PySem PySem.Spec PyProof.Rows L2 LamX
section
variable {X : Cx} {pins : List (Addr × Obj)} {σ : L2.St} {H HZ : Hp} {s s1 : Shared}
/-- x() in the def that got the lambda, its slots told: what is let out is told of these very slots -/
theorem pe_actS {CXg : CXT} {Eg : XK} {Ng : List Str} {qg : Str} {sg : Scope} {g f c' : Addr} {cdg pm ctv : Value} {params : Arguments} {body : Expr} {scope : Scope} {k i : Nat} {a : Str} {pn : List (Addr × Obj)} {xe : Value → Shared → Prop} {W : WX} {E : XK} {tb : TE} {p1 p2 : Pos} {σ0 : L2.St}
    (I : Inv X pins σ H s) (L : LamS X.env.scope scope) (hf : s.heap.get? f = some (PySem.W.kla_obj "<lambda>" (X.env.qual ++ "<lambda>") params body scope (cloFrom X.env.cells scope.names []) pm c' ctv)) (hfn : H f = none) (hfr : f ∉ frs X.stack)
    (hbind : bindArgs (PySem.W.kla_fn "<lambda>" (X.env.qual ++ "<lambda>") params body scope (cloFrom X.env.cells scope.names []) pm (.ref c') ctv) ⟨[], []⟩ = pure [])
    (tk : Takes ((cxOf CXg X.prog X.w X.K X.mg X.base Ng qg sg g cdg X.A X.stack s H Eg).tr pn xe) W) (hW : ∀ cls d H', E cls d H' → W cls d σ0 H') (hr : Room (k + 1) (X.A.deeper (envOfC qg sg s.heap.objs.size g cdg)))
    (hbody : ∀ (A : Around) (outer : List Env) (s : Shared) (H : Hp), Room k (A.deeper (lamEnv X scope s.heap.objs.size f c')) → PE (lamCx X A outer s H E scope f c') body tb)
    (hN : Ng[i]? = some a) (hv : Vis sg a) (hd : (a == ("__debug__" : Str)) = false := by decide) (hcd : (a == ("__classdict__" : Str)) = false := by decide) :
    PE ((cxOf CXg X.prog X.w X.K X.mg X.base Ng qg sg g cdg X.A X.stack s H Eg).tr pn xe) (.Call (.Name a p1) [] [] p2)
      (fun σZ HZ Q => σZ = σ0 ∧ σZ[i]? = some (some (.ref f)) ∧ HZ c' = some (CodeO c' (X.env.qual ++ "<lambda>")) ∧ tb σ HZ Q) := by
  refine ⟨fun pinsZ sZ σZ HZ Q IZ h => ?_⟩
  obtain ⟨e0, hs, hc, ht⟩ := h
  subst e0
  refine wpAny_Call_Name_kw (thn ((pe_var (pos := p1) (i := i) hN hv hd hcd).run pinsZ sZ σZ HZ (fun v H1 => v = .ref f ∧ H1 = HZ) IZ ⟨.ref f, hs, rfl, rfl⟩) fun u s1 ⟨v, H1, I1, r1, q1⟩ => ?_)
  obtain ⟨ev, eH⟩ := q1
  subst ev
  rw [eH] at I1
  obtain rfl : u = Value.ref f := r1
  have of1 : s1.heap.get? f = some (PySem.W.kla_obj "<lambda>" (X.env.qual ++ "<lambda>") params body scope (cloFrom X.env.cells scope.names []) pm c' ctv) := I1.base.keep f _ hf hfn hfr (fun z => nomatch (show f ∈ ([] : List Addr) from z))
  refine PySem.W.callWith_F0 ⟨_, _, _, _, of1⟩ ?_
  have un : Un (frs X.stack) [] H HZ s.heap s1.heap := I1.base
  obtain ⟨⟨oc, vs, t, hoc, hdc, hvc⟩, _, _⟩ := I1.hok c' _ hc
  have rc : codeAny (model X.prog X.w) (X.A.deeper (envOfC qg sg s.heap.objs.size g cdg)) (.call (.ref f) ⟨[], []⟩) (CR (L2.CX X.prog X.w) (envOfC qg sg s.heap.objs.size g cdg :: X.stack) X.prog X.w HZ s1 Q E) s1 := by
    refine PySem.W.kla_callFunE hr.depth of1 rfl L.co L.gen rfl ⟨c', oc, vs, t, rfl, hoc, hdc, hvc⟩ ?_
    rw [hbind]
    refine wpAny_pure (wpAny_newFunctionEnv (fun y hy => (L.own y hy).2) (fun y hy => absurd hy (by simp)) (fun h₁ hns hsb => ⟨I1.nolimit.fresh _ hsb, ?_⟩) L.kind)
    show codeAny _ _ (.expr body (lamEnv X scope s1.heap.objs.size f c')) _ _
    have kp : ∀ b o, s1.heap.get? b = some o → h₁.get? b = some o := fun b o e => hsb.extBut b o (Nat.ne_of_lt (Heap.lt_size e)) (Heap.get?_push_of_some _ e)
    have J : Inv (lamCx X (X.A.deeper (envOfC qg sg s.heap.objs.size g cdg)) (envOfC qg sg s.heap.objs.size g cdg :: X.stack) s1 HZ E scope f c') [] σ HZ { s1 with heap := h₁, toks := s1.toks + ([] : List (Str × Value)).length } :=
      lam_start2 I L I1.env0 hr.hd un hns kp
    refine PySem.W.kla_codeExpr (wpAny_mono ((hbody _ _ s1 HZ (hr.deeper _)).run [] _ _ HZ Q J ht) (fun v s' hq => ?_) fun e s' hq => hq)
    obtain ⟨w', H', J', rv, q⟩ := hq
    exact ⟨w', H', J'.os, J'.bare, J'.base, J'.hok, rv, q⟩
  refine wpAny_call (codeAny_mono rc fun r s' hq => ?_)
  cases r with
  | error e => exact tk e s' (XE.of_call I1 hW hq)
  | ok fl =>
    cases fl with
    | ret u => exact I1.after hq
    | next => exact False.elim hq
    | brk => exact False.elim hq
    | cont => exact False.elim hq
end
def GivesToS (X : Cx) (Ng : List Str) (x : Str) (sg : Scope) (g : Addr) (cdg : Value) (bg : List Stmt) (a : Str) (q : Str) (TT : (XK → Hp → VK → Prop) → Hp → VK → Prop) : Prop :=
  ∀ (f c' : Addr) (s : Shared) (H : Hp) (Q : VK) (tl : XK → Hp → VK → Prop),
    (∀ (W : WX) (pn : List (Addr × Obj)) (xe : Value → Shared → Prop) (E : XK) (σ0 : L2.St) (p1 p2 : Pos), Takes ((cxOf C8.CX0 X.prog X.w X.K X.mg X.base Ng x sg g cdg X.A X.stack s H C8.E0).tr pn xe) W → (∀ cls d H', E cls d H' → W cls d σ0 H') →
      PE ((cxOf C8.CX0 X.prog X.w X.K X.mg X.base Ng x sg g cdg X.A X.stack s H C8.E0).tr pn xe) (.Call (.Name a p1) [] [] p2) (fun σZ HZ Q => σZ = σ0 ∧ σZ[0]? = some (some (.ref f)) ∧ HZ c' = some (CodeO c' q) ∧ tl E HZ Q)) →
    H c' = some (CodeO c' q) → TT tl H Q →
    ∃ t, PSs (cxOf C8.CX0 X.prog X.w X.K X.mg X.base Ng x sg g cdg X.A X.stack s H C8.E0).nox bg t ∧ t { nx := fun _ H' => Q .non H', rt := Q } (L2.start Ng [.ref f]) H
section
variable {X : Cx}
/-- x(lambda: body) -/
theorem pe_lamcallS {T : List (Addr × Str)} {TT : (XK → Hp → VK → Prop) → Hp → VK → Prop} {x a : Str} {g c P : Addr} {k : Nat} {pg : Arguments} {bg : List Stmt} {sg : Scope} {dV kV doc pm cdv ct oc : Value} {an od : Option Addr} {osl : Array (Option Value)} {Ng : List Str}
    {params : Arguments} {body : Expr} {scope : Scope} {t : XK → TE} {p lpos pos : Pos} (hg : Gl X x) (hm : X.mg x = some (.ref g)) (hk : PySem.W.keepIn X.K (.ref g) = true)
    (lk : X.K.lookup g = some ⟨oc, od, .func (PySem.W.fnOf x x pg bg sg dV kV doc pm an cdv ct), osl⟩) (hcg : PySem.W.codeIn X.K cdv x = true) (hb : L2.Binds X.K (PySem.W.fnOf x x pg bg sg dV kV doc pm an cdv ct) [a] []) (Sg : FnScope Ng [a] sg) (hNg : Ng[0]? = some a) (hva : Vis sg a)
    (hG : GivesToS X Ng x sg g cdv bg a (X.env.qual ++ "<lambda>") TT)
    (TB : TabB X.base X.mg c P) (hcode : X.env.code = .ref c) (hmT : (P, X.env.qual ++ "<lambda>") ∈ T) (hu : ∀ p ∈ T, p.1 = P → p.2 = X.env.qual ++ "<lambda>") (hr : Room (k + 2) X.A) (L : LamS X.env.scope scope) (hdef : defaultsOf params X.env = ([], []))
    (hbind : ∀ (q : Str) (cl : List (Str × Addr)) (pm cv ctv : Value), bindArgs (PySem.W.kla_fn "<lambda>" q params body scope cl pm cv ctv) ⟨[], []⟩ = pure [])
    (hbody : ∀ (A : Around) (outer : List Env) (s : Shared) (H : Hp) (E : XK) (f c' : Addr), Room k (A.deeper (lamEnv X scope s.heap.objs.size f c')) → PE (lamCx X A outer s H E scope f c') body (t E))
    (hdb : (x == ("__debug__" : Str)) = false := by decide) (hd : (a == ("__debug__" : Str)) = false := by decide) (hcd : (a == ("__classdict__" : Str)) = false := by decide) :
    PE X (.Call (.Name x p) [.Lambda params body scope lpos] [] pos) (tLam T TT t) := by
  refine ⟨fun pins s σ H Q I h => ?_⟩
  obtain ⟨hT, h⟩ := h
  refine wpAny_Call_Name_kw (ld_glob I hg hm ?_ hdb)
  refine PySem.W.callWith_K (h₀ := X.base) I.ok.mod.kin hk ?_ (by rfl) (by rfl)
  show wpAny _ _ (spliced ((false, eval (.Lambda params body scope lpos) X.env) :: backTo pos (starEach [] X.env))) _ _ s
  refine Calls.spliced_cons (lam_make2 I TB hcode hmT hu hT hdef (L.has I.ok) fun f c' pm' ctv H1 s' I1 eN T1 hf hfn hfr hco => ?_)
  refine Calls.spliced_nil ⟨I1.kIn, ?_⟩
  have rc : codeAny (model X.prog X.w) X.A (.call (.ref g) ⟨[.ref f], []⟩) (CR C8.CX0 X.stack X.prog X.w H1 s' Q C8.E0) s' := by
    refine run_ofS (N := Ng) (ps := [a]) (us := [.ref f]) (vs := [.ref f]) lk hcg Sg hr I1.env0 (hb s' [.ref f] I1.kIn rfl) (.cons rfl .nil) rfl fun hr' => ?_
    obtain ⟨t', ht', hq'⟩ := hG f c' s' H1 Q (fun E H' Q' => t E σ H' Q') (fun W pn xe E σ0 p1 p2 tk hW => pe_actS (i := 0) I1 L hf hfn hfr (hbind _ _ _ _ _) tk hW hr' (fun A outer s H hr2 => hbody A outer s H E f c' hr2) hNg hva hd hcd) hco (h H1 eN T1)
    exact ⟨t', ht'.nox, hq'⟩
  refine wpAny_call (codeAny_mono rc fun r s2 hq => ?_)
  cases r with
  | error e => exact (show False from hq).elim
  | ok fl =>
    cases fl with
    | ret u => exact I1.after hq
    | next => exact False.elim hq
    | brk => exact False.elim hq
    | cont => exact False.elim hq
end
end OGX
set_option Elab.async false
set_option linter.all false
set_option maxRecDepth 100000
set_option maxHeartbeats 8000000
namespace OG
open PySem PySem.Spec PyProof.Rows L2 LamX
/-! what does not look at tables -/
theorem SqT.extN {K : PySem.W.Frag} {H H' : Hp} {a : Addr} {xs : List V} (h : SqT K H a xs) (e : ExtN H H') : SqT K H' a xs :=
  h.elim (fun h => .inl (h.elim (fun h => .inl (e _ _ h fun _ z => by cases z)) fun ⟨o, h⟩ => .inr ⟨o, e _ _ h fun _ z => by cases z⟩)) fun h => .inr h
theorem SqL.extN {K : PySem.W.Frag} {H H' : Hp} {a : Addr} {xs : List V} (h : SqL K H a xs) (e : ExtN H H') : SqL K H' a xs :=
  h.elim (fun h => .inl (h.elim (fun h => .inl (e _ _ h fun _ z => by cases z)) fun ⟨o, h⟩ => .inr ⟨o, e _ _ h fun _ z => by cases z⟩)) fun h => .inr h
mutual
theorem Dp.extN {K : PySem.W.Frag} {H H' : Hp} (s : ExtN H H') : ∀ {v : V} {d : PyData}, Dp K H v d → Dp K H' v d
  | _, _, .non => .non
  | _, _, .bl b => .bl b
  | _, _, .int i => .int i
  | _, _, .str z => .str z
  | _, _, .lst h a => .lst (SqL.extN h s) (DpAll.extN s a)
  | _, _, .tup h a => .tup (SqT.extN h s) (DpAll.extN s a)
theorem DpAll.extN {K : PySem.W.Frag} {H H' : Hp} (s : ExtN H H') : ∀ {vs : List V} {ds : List PyData}, DpAll K H vs ds → DpAll K H' vs ds
  | _, _, .nil => .nil
  | _, _, .cons h a => .cons (Dp.extN s h) (DpAll.extN s a)
end
theorem ObjAt.extN {K : PySem.W.Frag} {mg : Str → Option Value} {T : Txt K mg} {H H' : Hp} {x : Addr} {z : Str} {b : Int} {mw : List (Str × Int)} {kw : List (Str × List Int)} (h : ObjAt T H x z b mw kw) (s : ExtN H H') : ObjAt T H' x z b mw kw := by
  have gm : ∀ {t xs}, MkT H t xs → MkT H' t xs := fun {t xs} ⟨o, e, d⟩ => ⟨o, s _ _ e (fun _ z => by cases z), d⟩
  obtain ⟨dx, t1, t2, a1, a2, fs, kv2, hx, l10, f1, f2, f3, g1, f4, g2, f5, g3, f6, g4, g5, n1, n2⟩ := h
  refine ⟨dx, t1, t2, a1, a2, fs, kv2, s _ _ hx (fun _ z => by cases z), l10, f1, f2, f3, gm g1, f4, gm g2, f5, s _ _ g3 (fun _ z => by cases z), f6, s _ _ g4 (fun _ z => by cases z), ?_, n1, n2⟩
  have key : ∀ {kv : List (Key × V)} {kw : List (Str × List Int)}, KvK H kv kw → KvK H' kv kw := by
    intro kv kw h
    induction h with
    | nil => exact .nil
    | cons h _ ih =>
      obtain ⟨e, t, et, ht⟩ := h
      exact .cons ⟨e, t, et, s _ _ ht (fun _ z => by cases z)⟩ ih
  exact key g5
theorem BO.extN {K : PySem.W.Frag} {mg : Str → Option Value} {T : Txt K mg} {H H' : Hp} {x : Addr} {z : Str} {b : Int} {m : Nat} {ms ks : List Str} {ws : List Int} {Ms : List (List (List Int))} (h : BO T H x z b m ms ks ws Ms) (s : ExtN H H') : BO T H' x z b m ms ks ws Ms := ⟨h.obj.extN s, h.ok, h.mat⟩
theorem BO.kp {K : PySem.W.Frag} {mg : Str → Option Value} {T : Txt K mg} {H H' : Hp} {x p : Addr} {z : Str} {b : Int} {m : Nat} {ms ks : List Str} {ws : List Int} {Ms : List (List (List Int))} (h : BO T H x z b m ms ks ws Ms) (hp : ∃ xs, H p = some (.lst xs)) (k : Kp p H H') : BO T H' x z b m ms ks ws Ms := ⟨h.obj.kp hp k, h.ok, h.mat⟩
/-- the lambda's name -/
def jq : Str := (envOfC "_law_is_refused" (defScope s_l_is_refused) (0 : Nat) (0 : Nat) .none).qual ++ "<lambda>"
/-- the judge's code object -/
structure JAt (K : PySem.W.Frag) (mg : Str → Option Value) (T : Txt K mg) (c : Addr) : Prop where
  ex : ∃ (oc : Value) (od : Option Addr) (kV doc pm : Value) (an : Option Addr) (ct : Value) (osl : Array (Option Value)),
    T.fd_l_is_refused = PySem.W.fnOf "_law_is_refused" "_law_is_refused" (defArgs s_l_is_refused) (defBody s_l_is_refused) (defScope s_l_is_refused) .none kV doc pm an (.ref c) ct ∧ K.lookup T.f_l_is_refused = some ⟨oc, od, .func T.fd_l_is_refused, osl⟩ ∧ PySem.W.codeIn K (.ref c) "_law_is_refused" = true
/-- what is made of the call that is heard -/
def THeard (K : PySem.W.Frag) (CS : Addr) : (XK → Hp → VK → Prop) → Hp → VK → Prop := fun tl H Q => ∀ H1, Same H H1 →
  tl (fun cls d H' => ∃ b, PySem.W.exmOne K cls (.ref CS) = some b ∧ (b = true → ∀ a, H' a = none → ∀ t, upd H' a (OGX.ExV cls d a) t = none → Q (.ref t) (upd (upd H' a (OGX.ExV cls d a)) t (.tup [.ref a, .non]))) ∧ (b = false → False)) H1
    (fun v H' => ∀ t, H' t = none → Q (.ref t) (upd H' t (.tup [.non, v])))
theorem pe_weak {X : Cx} {e : Expr} {te : TE} (h : PE X e te) : PE X e (fun σ H Q => ∃ Qs : VK, (∀ v H', Qs v H' → Q v H') ∧ te σ H Qs) := by
  refine ⟨fun pins s σ H Q I hh => ?_⟩
  obtain ⟨Qs, hq, ht⟩ := hh
  refine wpAny_mono (h.run pins s σ H Qs I ht) (fun u s1 hu => ?_) fun _ _ x => x
  obtain ⟨v, H1, I1, r1, q1⟩ := hu
  exact ⟨v, H1, I1, r1, hq v H1 q1⟩
section
variable {P : Program} {w : World} {K : PySem.W.Frag} {mg : Str → Option Value} {base : Heap}
theorem heard_gives {T : Txt K mg} {X : Cx} (hK : X.K = K) (hmg : X.mg = mg) {g : Addr} {cdg : Value} {q : Str} : OGX.GivesToS X ["call", "caught", "back", "error"] "_law_heard" (defScope s_l_heard) g cdg (defBody s_l_heard) "call" q (THeard K T.c_GateError) := by
  subst hK hmg
  intro f c' s H Q tl act hc h
  refine ⟨_, pss_cons (ps_asg (pe_tup (pa_cons pe_non (pa_cons pe_non pa_nil))) (pg_tup (by rfl) (pgs_cons (pg_name (i := 1) sc_l_heard.nd rfl (Or.inl rfl)) (pgs_cons (pg_name (i := 2) sc_l_heard.nd rfl (Or.inl rfl)) pgs_nil))))
    (pss_cons (OGX.ps_try_keep (i := 3) (c := .ref T.c_GateError)
      (tb := fun W D σ H => ∃ Ech : XK, (∀ cls d H', Ech cls d H' → W cls d σ H') ∧ σ[0]? = some (some (.ref f)) ∧ H c' = some (CodeO c' q) ∧ ∃ Qs : VK, (∀ v H', Qs v H' → D.nx (σ.set 2 (some v)) H') ∧ tl Ech H Qs)
      rfl rfl rfl sc_l_heard.nd rfl rfl ⟨by rfl, by decide, .inl T.g_GateError⟩ L2.takes0 (fun W pn xe tk _ => ?_) (fun a oe cls d pn _ _ => pss_one (ps_set (i := 1) sc_l_heard.nd rfl (Or.inl rfl) (pv 3))))
    (pss_one (ps_ret (pe_tup (pa_cons (pv 1) (pa_cons (pv 2) pa_nil)))))), ?_⟩
  · refine ⟨fun pins s' σ H' D I h' => ?_⟩
    obtain ⟨Ech, hW, h1, h2, Qs, hQ, h3⟩ := h'
    exact (pss_one (ps_set (i := 2) sc_l_heard.nd rfl (Or.inl rfl) (pe_weak (act W pn xe Ech σ _ _ tk hW)))).run pins s' σ H' D I ⟨Qs, hQ, rfl, h1, h2, h3⟩
  · refine ⟨Nat.le_trans (show 2 ≤ 1000 by decide) (by decide), fun t0 ht0 => ?_⟩
    have s0 := same_new (o := .tup [.non, .non]) ht0
    refine ⟨t0, _, rfl, SqT.of upd_same, rfl, _, _, rfl, _, _, rfl, rfl, ?_⟩
    refine ⟨_, ?_, rfl, s0 _ _ hc, _, ?_, h _ s0⟩
    · rintro cls d H' ⟨b, e1, e2, e3⟩
      refine ⟨b, e1, fun hb a ha => ?_, fun hb => e3 hb⟩
      refine ⟨.ref a, rfl, fun na => ?_⟩
      exact ⟨_, rfl, _, rfl, Nat.le_trans (show 2 ≤ 1000 by decide) (by decide), fun t ht => e2 hb a ha t ht⟩
    · intro v H' hv
      exact ⟨_, rfl, _, rfl, Nat.le_trans (show 2 ≤ 1000 by decide) (by decide), fun t ht => hv t ht⟩
theorem TabS.single {H : Hp} {Pt : Addr} {q : Str} (h : TabS H Pt q) : Tabs [(Pt, q)] H := fun p hp => by
  rw [List.mem_singleton.mp hp]
  exact h
def spRefused (T : Txt K mg) (Pt : Addr) : Sp := fun vs H Q _ => ∃ (x y : Addr) (z z' : Str) (b b' : Int) (m m' : Nat) (ms ks ms' ks' : List Str) (ws ws' : List Int) (Ms Ms' : List (List (List Int))), vs = [.ref x, .ref y] ∧ BO T H x z b m ms ks ws Ms ∧ BO T H y z' b' m' ms' ks' ws' Ms' ∧ ¬(b = b' ∧ ks = ks') ∧
  TabS H Pt jq ∧ ∀ H', ExtN H H' → TabS H' Pt jq → Q (.bl true) H'
theorem ok_l_is_refused (T : Txt K mg) (XT : TxtX K mg T) (XM : TxtM K mg T) {c Pt : Addr} (J : JAt K mg T c) (TB : TabB base mg c Pt) : FnOk P w K mg base CX0 10 T.f_l_is_refused T.fd_l_is_refused ["one", "other"] (spRefused T Pt) := by
  obtain ⟨oc, od, kV, doc, pm, an, ct, osl, efd, lk, hcd⟩ := J.ex
  rw [efd] at lk ⊢
  refine fn_of lk hcd sc_l_is_refused (fun vs H Q E h => ?_) fun A outer s H vs Q E hr h => ?_
  · obtain ⟨x, y, _, _, _, _, _, _, _, _, _, _, _, _, _, _, rfl, _⟩ := h
    rfl
  obtain ⟨x, y, z, z', b, b', m, m', ms, ks, ms', ks', ws, ws', Ms, Ms', rfl, hX, hY, hne, hT, q⟩ := h
  obtain ⟨och, odh, kVh, doch, pmh, anh, cdvh, cth, oslh, efh, lkh, hch⟩ := T.F_l_heard.ex
  have bh := T.b_l_heard
  rw [efh] at lkh bh
  suffices hh : ∃ t, PSs (cxOf CX0 P w K mg base ["one", "other", "caught"] "_law_is_refused" (defScope s_l_is_refused) T.f_l_is_refused (.ref c) A outer s H E).nox (defBody s_l_is_refused) t ∧ t { nx := fun _ H' => Q .non H', rt := Q } (L2.start ["one", "other", "caught"] [.ref x, .ref y]) H by
    obtain ⟨t, h1, h2⟩ := hh
    exact ⟨t, h1.nox, h2⟩
  refine ⟨_, (pss_cons (ps_set (i := 2) sc_l_is_refused.nd rfl (Or.inl rfl) (pe_ix ix_tup (OGX.pe_lamcallS (T := [(Pt, jq)]) (TT := THeard K T.c_GateError) (k := 7) (by rfl) T.g_l_heard T.F_l_heard.kp lkh hch bh sc_l_heard rfl (Or.inl rfl) (heard_gives rfl rfl) TB rfl List.mem_cons_self (fun p hp _ => by rw [List.mem_singleton.mp hp]; rfl) (hr.mono (by decide)) (lamS_by (by show lamSB (defScope s_l_is_refused) _ = true; decide +kernel)) rfl (fun _ _ _ _ _ => rfl)
      (fun A outer s H E f c' hr2 => pe_call (ok_renamings T XT XM) (hr2.mono (by decide)) (by rfl) T.g_renamings T.F_renamings.kp T.b_renamings .nil (passes_call (takes_of rfl rfl rfl rfl) (fun _ _ _ _ h => h)) (pa_cons (pv 0) (pa_cons (pv 1) pa_nil)))) pe_int (fun _ _ => rfl)))
  (pss_one (ps_ret (pe_and (pe_callB OGX.call_isK (by rfl) T.n_isinstance (by decide +kernel) (pa_cons (pv 2) (pa_cons (C8.pe_gc (v := .ref T.c_OtherKinds) (by rfl) ⟨_, T.g_OtherKinds, rfl⟩) pa_nil))) (pe_and (pe_callB call_isi (by rfl) T.n_isinstance (by decide +kernel) (pa_cons (OGX.pe_xv XM.xfO XM.noO (pv 2)) (pa_cons (C8.pe_gc (v := .ref T.c_Book) (by rfl) ⟨_, T.g_Book, rfl⟩) pa_nil))) (pe_one (pe_cmpR op_eq (pe_fld (OGX.pe_xv XM.xfO XM.noO (pv 2)) rfl) (pe_fld (pv 1) rfl) (nomark _)))))))), ?_⟩
  refine ⟨TabS.single hT, fun H2 e2 hT2 => ?_⟩
  have tb2 : TabS H2 Pt jq := hT2 _ List.mem_cons_self
  refine fun H3 s3 => ?_
  have e3 := e2.trans (ExtN.of s3)
  have hX3 := hX.extN e3
  have hY3 := hY.extN e3
  refine ⟨.ref x, rfl, .ref y, rfl, x, y, z, z', b, b', m, m', ms, ks, ms', ks', ws, ws', Ms, Ms', rfl, hX3, hY3, .inr ⟨hne, fun d H' s' hd => ?_⟩⟩
  refine ⟨true, XM.teO, fun _ a ha t ht => ?_, fun z => by cases z⟩
  have sE := same_new (o := OGX.ExV (.ref T.c_OtherKinds) (some d) a) ha
  have sT := same_new (o := .tup [.ref a, .non]) ht
  have hA : (upd (upd H' a (OGX.ExV (.ref T.c_OtherKinds) (some d) a)) t (.tup [.ref a, .non])) a = some (OGX.ExV (.ref T.c_OtherKinds) (some d) a) := sT _ _ upd_same
  have hD : (upd (upd H' a (OGX.ExV (.ref T.c_OtherKinds) (some d) a)) t (.tup [.ref a, .non])) d = some (.xd [("value", .ref y)]) := sT _ _ (sE _ _ hd)
  have hTt : (upd (upd H' a (OGX.ExV (.ref T.c_OtherKinds) (some d) a)) t (.tup [.ref a, .non])) t = some (.tup [.ref a, .non]) := upd_same
  have sF := (s'.trans sE).trans sT
  generalize upd (upd H' a (OGX.ExV (.ref T.c_OtherKinds) (some d) a)) t (.tup [.ref a, .non]) = H5 at *
  have hY5 := hY3.same sF
  obtain ⟨dy, t1', t2', a1', a2', fs', kv2', hy, _, f1', f2', f3', g1', f4', g2', f5', g3', f6', g4', g5', n1', n2'⟩ := id hY5.obj
  refine ⟨t, _, 0, .ref a, rfl, rfl, SqT.of hTt, rfl, ?_⟩
  refine ⟨.ref a, rfl, a, T.c_OtherKinds, d, _, .ref T.c_OtherKinds, .ref T.c_OtherKinds, true, rfl, hA, hD, XM.ecO, fun u r => r, XM.ktO, ?_⟩
  refine ⟨_, rfl, ?_⟩
  refine iteT ?_
  refine ⟨.ref a, rfl, a, d, _, .ref y, rfl, hA, hD, rfl, _, _, _, _, true, rfl, .own T.c_Book, .base (.ins hy XT.cl XT.ca XT.ec.hn XT.ec.ht XT.ob), XT.kb, ?_⟩
  refine ⟨_, rfl, ?_⟩
  refine iteT ?_
  refine ⟨.ref a, rfl, a, d, _, .ref y, rfl, hA, hD, rfl, y, T.c_Book, dy, fs', _, rfl, hy, XT.cl, XT.na1, f1', .ref y, rfl, y, T.c_Book, dy, fs', _, rfl, hy, XT.cl, XT.na1, f1', rfl, ?_⟩
  show Q (.bl (decide _)) H5
  rw [decide_eq_true rfl]
  have hT3 : TabS H3 Pt jq := tb2.ext s3
  exact q H5 (e3.trans (ExtN.of sF)) (hT3.ext sF)
end
end OG
set_option Elab.async false
set_option linter.all false
set_option maxRecDepth 100000
set_option maxHeartbeats 8000000
namespace OG
open PySem PySem.Spec PyProof.Rows L2
/-- f(k2 = a, k1 = b): the arguments turned about -/
def turned2 {α : Type} : List α → List α → List α
  | [], [a, b] => [b, a]
  | _, _ => []
theorem kb_renamings {K : PySem.W.Frag} {f : Addr} {fd : FuncData} (F : Fun K "renamings" "renamings" s_renamings f fd) : KBinds K fd ["one", "other"] ["other", "one"] turned2 turned2 := by
  obtain ⟨oc, od, kV, doc, pm, an, cdv, ct, osl, rfl, lk, hcd⟩ := F.ex
  refine ⟨fun s us ws _ hl => ?_, fun {vs us zs ws} r r2 => ?_⟩
  · match us, ws, hl with
    | [], [a, b], _ => exact BindsTo.of_eq rfl
    | [], [], h => cases h
    | [], [_], h => cases h
    | [], _ :: _ :: _ :: _, h => cases h
    | _ :: _, _, h => cases h
  · cases r with
    | nil =>
      cases r2 with
      | nil => exact .nil
      | cons a r2 =>
        cases r2 with
        | nil => exact .nil
        | cons b r2 =>
          cases r2 with
          | nil => exact .cons b (.cons a .nil)
          | cons c r2 => exact .nil
    | cons a r => exact .nil
end OG
set_option Elab.async false
set_option linter.all false
set_option maxRecDepth 100000
set_option maxHeartbeats 4000000
namespace OG
open PySem PySem.Spec PyProof.Rows L2
/-- data that repr may be asked of -/
structure DOk (k c : Nat) (d : PyData) : Prop where
  sh : d.showable = true
  nd : d.hasDict = false
  dp : d.depth ≤ k
  ln : d.shown.length ≤ c
theorem DOk.mono {k c j e : Nat} {d : PyData} (h : DOk k c d) (h1 : k ≤ j) (h2 : c ≤ e) : DOk j e d := ⟨h.sh, h.nd, Nat.le_trans h.dp h1, Nat.le_trans h.ln h2⟩
theorem dok_int {i : Int} (h1 : -1000000000000 ≤ i) (h2 : i ≤ 1000000000000) : DOk 0 50 (.int i) := by
  refine ⟨?_, by simp only [PyData.hasDict], by simp only [PyData.depth]; exact Nat.le_refl _, ?_⟩
  · simp only [PyData.showable]
    exact decide_eq_true (small_log h1 h2)
  · rw [PyData.shown_int]
    exact Nat.le_trans (istr_len h1 h2) (by decide)
theorem dok_str {z : Str} (hz : IsNm z) : DOk 0 50 (.str z) := by
  refine ⟨by simp only [PyData.showable], by simp only [PyData.hasDict], by simp only [PyData.depth]; exact Nat.le_refl _, ?_⟩
  rw [PyData.shown_str]
  have h := StrLaws.reprText_len z fun c hc => by
    have h1 := hz.2.2 c hc
    have h2 : ∀ c ∈ abc, c < 16 ^ 8 := by decide +kernel
    exact h2 c h1
  have := hz.2.1
  omega
theorem dok_bool (b : Bool) : DOk 0 50 (.bool b) := by
  refine ⟨by simp only [PyData.showable], by simp only [PyData.hasDict], by simp only [PyData.depth]; exact Nat.le_refl _, ?_⟩
  rw [PyData.shown_bool]
  cases b <;> decide +kernel
theorem shownAll_map : ∀ ds : List PyData, PyData.shownAll ds = ds.map PyData.shown
  | [] => by rw [PyData.shownAll_nil]; rfl
  | d :: r => by rw [PyData.shownAll_cons, shownAll_map r]; rfl
theorem sum_le_mul {c : Nat} : ∀ {l : List Nat}, (∀ x ∈ l, x ≤ c) → l.sum ≤ c * l.length
  | [], _ => Nat.zero_le _
  | x :: r, h => by
    have h1 := h x List.mem_cons_self
    have h2 := sum_le_mul fun y hy => h y (List.mem_cons_of_mem _ hy)
    rw [List.sum_cons, List.length_cons, Nat.mul_succ]
    omega
theorem parts_ok {k c : Nat} : ∀ {ds : List PyData}, (∀ d ∈ ds, DOk k c d) → PyData.showableAll ds = true ∧ PyData.hasDictAll ds = false ∧ PyData.depthAll ds ≤ k
  | [], _ => by
    refine ⟨by simp only [PyData.showableAll], by simp only [PyData.hasDictAll], ?_⟩
    simp only [PyData.depthAll]
    exact Nat.zero_le _
  | d :: r, h => by
    have h1 := h d List.mem_cons_self
    obtain ⟨a, b, e⟩ := parts_ok fun y hy => h y (List.mem_cons_of_mem _ hy)
    refine ⟨by simp only [PyData.showableAll, h1.sh, a]; rfl, by simp only [PyData.hasDictAll, h1.nd, b]; rfl, ?_⟩
    simp only [PyData.depthAll]
    exact Nat.max_le.mpr ⟨h1.dp, e⟩
theorem parts_len {k c n : Nat} {ds : List PyData} (h : ∀ d ∈ ds, DOk k c d) (hn : ds.length ≤ n) : ((PyData.shownAll ds).map (·.length)).sum + 2 * (PyData.shownAll ds).length + 3 ≤ c * n + 2 * n + 3 := by
  rw [shownAll_map, List.length_map]
  have e := sum_le_mul (c := c) (l := (ds.map PyData.shown).map (·.length)) fun x hx => by
    obtain ⟨t, ht, rfl⟩ := List.mem_map.mp hx
    obtain ⟨d, hd, rfl⟩ := List.mem_map.mp ht
    exact (h d hd).ln
  rw [List.length_map, List.length_map] at e
  have := Nat.mul_le_mul_left c hn
  omega
theorem dok_list {k c n : Nat} {ds : List PyData} (h : ∀ d ∈ ds, DOk k c d) (hn : ds.length ≤ n) : DOk (k + 1) (c * n + 2 * n + 3) (.list ds) := by
  obtain ⟨a, b, e⟩ := parts_ok h
  refine ⟨by simp only [PyData.showable, a], by simp only [PyData.hasDict, b], by simp only [PyData.depth]; omega, ?_⟩
  simp only [PyData.shown]
  exact Nat.le_trans (listText_len_le _) (parts_len h hn)
theorem dok_tuple {k c n : Nat} {ds : List PyData} (h : ∀ d ∈ ds, DOk k c d) (hn : ds.length ≤ n) : DOk (k + 1) (c * n + 2 * n + 3) (.tuple ds) := by
  obtain ⟨a, b, e⟩ := parts_ok h
  refine ⟨by simp only [PyData.showable, a], by simp only [PyData.hasDict, b], by simp only [PyData.depth]; omega, ?_⟩
  simp only [PyData.shown]
  exact Nat.le_trans (tupleText_len_le _) (parts_len h hn)
theorem dok_strs {zs : List Str} (h : ∀ z ∈ zs, IsNm z) : ∀ d ∈ zs.map PyData.str, DOk 0 50 d := fun d hd => by
  obtain ⟨z, hz, rfl⟩ := List.mem_map.mp hd
  exact dok_str (h z hz)
theorem dok_ints {zs : List Int} (h : ∀ z ∈ zs, -1000000000000 ≤ z ∧ z ≤ 1000000000000) : ∀ d ∈ zs.map PyData.int, DOk 0 50 d := fun d hd => by
  obtain ⟨z, hz, rfl⟩ := List.mem_map.mp hd
  exact dok_int (h z hz).1 (h z hz).2
theorem dok_bools (zs : List Bool) : ∀ d ∈ zs.map PyData.bool, DOk 0 50 d := fun d hd => by
  obtain ⟨z, hz, rfl⟩ := List.mem_map.mp hd
  exact dok_bool z
/-- what stands in lists and tuples of leaves -/
theorem pr_strs {K : PySem.W.Frag} {H : Hp} (n : Nat) : ∀ zs : List Str, Paired (OGX.Rds K H n) (zs.map V.str) (zs.map PyData.str)
  | [] => .nil
  | z :: r => .cons (by cases n <;> first | exact rfl | exact .inl rfl) (pr_strs n r)
theorem pr_ints {K : PySem.W.Frag} {H : Hp} (n : Nat) : ∀ zs : List Int, Paired (OGX.Rds K H n) (zs.map V.int) (zs.map PyData.int)
  | [] => .nil
  | z :: r => .cons (by cases n <;> first | exact rfl | exact .inl rfl) (pr_ints n r)
theorem pr_bools {K : PySem.W.Frag} {H : Hp} (n : Nat) : ∀ zs : List Bool, Paired (OGX.Rds K H n) (zs.map V.bl) (zs.map PyData.bool)
  | [] => .nil
  | z :: r => .cons (by cases n <;> first | exact rfl | exact .inl rfl) (pr_bools n r)
theorem rds_list {K : PySem.W.Frag} {H : Hp} {n : Nat} {a : Addr} {xs : List V} {ds : List PyData} (h : H a = some (.lst xs)) (p : Paired (OGX.Rds K H n) xs ds) : OGX.Rds K H (n + 1) (.ref a) (.list ds) := .inr ⟨a, xs, ds, rfl, p, .inl ⟨h, rfl⟩⟩
theorem rds_tup {K : PySem.W.Frag} {H : Hp} {n : Nat} {a : Addr} {xs : List V} {ds : List PyData} (h : SqT K H a xs) (p : Paired (OGX.Rds K H n) xs ds) : OGX.Rds K H (n + 1) (.ref a) (.tuple ds) := .inr ⟨a, xs, ds, rfl, p, .inr ⟨h, rfl⟩⟩
end OG
set_option Elab.async false
set_option linter.all false
set_option maxRecDepth 100000
set_option maxHeartbeats 8000000
namespace OG
open PySem PySem.Spec PyProof.Rows L2 LamX
/-- all but p and the tables stays -/
def KpN (p : Addr) (H H' : Hp) : Prop := ∀ b o, b ≠ p → H b = some o → (∀ ps, o ≠ .tbl ps) → H' b = some o
/-- the tables stay where lists are written -/
theorem tabS_kp {H H' : Hp} {p Pt : Addr} {q : Str} (t : TabS H Pt q) (hp : ∃ xs, H p = some (.lst xs)) (k : Kp p H H') : TabS H' Pt q := by
  obtain ⟨ys, hp⟩ := hp
  have ne : ∀ {b o}, H b = some o → (∀ xs, o ≠ .lst xs) → b ≠ p := fun {b o} e n z => by
    rw [z, hp] at e
    exact n ys (Option.some.inj e).symm
  obtain ⟨ps, h1, h2, h3⟩ := t
  refine ⟨ps, k _ _ (ne h1 fun xs z => by cases z) h1, h2, fun pos cv hc => ?_⟩
  obtain ⟨c, e1, e2⟩ := h3 pos cv hc
  exact ⟨c, e1, k _ _ (ne e2 fun xs z => by
    unfold CodeO at z
    cases z) e2⟩
theorem Pot.lst {k : Nat} {H : Hp} {p : Addr} (h : Pot k H p) : ∃ xs, H p = some (.lst xs) := by
  obtain ⟨a, b, c, h1, _⟩ := h
  exact ⟨_, h1⟩
theorem Pot.ne3 {k : Nat} {H : Hp} {p l : Addr} {xs : List V} (h : Pot k H p) (n : H l = some (.lst xs)) (hx : 3 < xs.length) : l ≠ p := fun e => by
  obtain ⟨a, b, c, h1, _⟩ := h
  rw [e, h1] at n
  have l := congrArg List.length (HO.lst.inj (Option.some.inj n))
  rw [← l] at hx
  exact absurd hx (Nat.lt_irrefl 3)
/-- rows of names as data -/
theorem row_ok {m : Nat} {ms : List Str} {r : List Nat} (hn : ∀ z ∈ ms, IsNm z) (hm : ms.length = m) (hl : r.length ≤ 4) (hr : ∀ a ∈ r, a < m) : DOk 1 (50 * 4 + 2 * 4 + 3) (dRow ms r) ∧ PyData.canLay0 (dRow ms r) = true := by
  have h : ∀ z ∈ nmRow ms r, IsNm z := fun z hz => by
    obtain ⟨a, ha, rfl⟩ := List.mem_map.mp hz
    exact hn _ (nmAt_mem (by have := hr a ha; omega))
  have l : (nmRow ms r).length = r.length := List.length_map ..
  refine ⟨dok_tuple (n := 4) (dok_strs h) (by rw [List.length_map, l]; exact hl), ?_⟩
  unfold dRow
  simp only [PyData.canLay0]
  exact lay_strs fun z hz => nm_ok (h z hz)
theorem layAll : ∀ {ds : List PyData}, (∀ d ∈ ds, PyData.canLay0 d = true) → PyData.canLayAll0 ds = true
  | [], _ => rfl
  | d :: r, h => by
    simp only [PyData.canLayAll0, Bool.and_eq_true]
    exact ⟨h d List.mem_cons_self, layAll fun y hy => h y (List.mem_cons_of_mem _ hy)⟩
/-- what both sides give -/
theorem ren_ok {m m' : Nat} {ms' : List Str} {ws ws' : List Int} {Ms Ms' : List (List (List Int))} (hn : ∀ z ∈ ms', IsNm z) (hl : ms'.length = m') (hm : m ≤ 4) :
    DOk 2 21303 (.tuple (OGX.sortD (renX m ms' ws ws' Ms Ms' m'))) ∧ SeqAt.shaped (.tuple (OGX.sortD (renX m ms' ws ws' Ms Ms' m'))) = true := by
  have key : ∀ d ∈ OGX.sortD (renX m ms' ws ws' Ms Ms' m'), DOk 1 (50 * 4 + 2 * 4 + 3) d ∧ PyData.canLay0 d = true := fun d hd => by
    have hd := sortD_mem.mp hd
    unfold renX at hd
    split at hd
    · rename_i e
      obtain ⟨r, hr, rfl⟩ := List.mem_map.mp hd
      rw [e] at hr
      obtain ⟨h1, _, h3⟩ := ords_mem (List.mem_filter.mp hr).1
      exact row_ok hn hl (by omega) h3
    · cases hd
  have len : (OGX.sortD (renX m ms' ws ws' Ms Ms' m')).length ≤ 100 := by
    rw [sortD_len]
    unfold renX
    split
    · rw [List.length_map]
      exact fnd_len hm hm
    · exact Nat.zero_le _
  have dk := dok_tuple (n := 100) (fun d hd => (key d hd).1) len
  refine ⟨dk, ?_⟩
  unfold SeqAt.shaped
  rw [Bool.and_eq_true]
  refine ⟨?_, decide_eq_true (Nat.le_trans dk.dp (by decide))⟩
  simp only [PyData.canLay0]
  exact layAll fun d hd => (key d hd).2
theorem own_in {m : Nat} {ms : List Str} {ws : List Int} {Ms : List (List (List Int))} (hl : ms.length = m) (hm : m ≤ 4) (hn : ∀ z ∈ ms, IsNm z) : ((OGX.sortD (renX m ms ws ws Ms Ms m)).any fun z => PyData.eqv z (.tuple (ms.map PyData.str))) = true := by
  refine List.any_eq_true.mpr ⟨dRow ms (List.range m), sortD_mem.mpr ?_, ?_⟩
  · unfold renX
    rw [if_pos rfl]
    refine List.mem_map.mpr ⟨_, List.mem_filter.mpr ⟨ords_id hm, decide_eq_true (agr_id ws Ms m)⟩, rfl⟩
  · unfold dRow
    rw [← hl, nmRow_id, eqv_strs]
    exact decide_eq_true rfl
theorem dp_len {K : PySem.W.Frag} {H : Hp} : ∀ {vs : List V} {ds : List PyData}, DpAll K H vs ds → vs.length = ds.length
  | _, _, .nil => rfl
  | _, _, .cons _ t => congrArg (· + 1) (dp_len t)
theorem Dp.tupI {K : PySem.W.Frag} {H : Hp} {v : V} {ds : List PyData} (h : Dp K H v (.tuple ds)) : ∃ (a : Addr) (xs : List V), v = .ref a ∧ SqT K H a xs ∧ xs.length = ds.length := by
  cases h with
  | tup h a => exact ⟨_, _, rfl, h, dp_len a⟩
theorem SqT.kp {K : PySem.W.Frag} {H H' : Hp} {p a : Addr} {xs : List V} (h : SqT K H a xs) (hp : ∃ ys, H p = some (.lst ys)) (k : Kp p H H') : SqT K H' a xs := by
  obtain ⟨ys, hp⟩ := hp
  have ne : ∀ {o}, H a = some o → (∀ xs, o ≠ .lst xs) → H' a = some o := fun {o} e n => k _ _ (fun z => by
    rw [z, hp] at e
    exact n ys (Option.some.inj e).symm) e
  exact h.elim (fun h => .inl (h.elim (fun h => .inl (ne h fun _ z => by cases z)) fun ⟨o, h⟩ => .inr ⟨o, ne h fun _ z => by cases z⟩)) fun h => .inr h
theorem dp_strsI {K : PySem.W.Frag} {H : Hp} : ∀ {vs : List V} {zs : List Str}, DpAll K H vs (zs.map PyData.str) → vs = zs.map V.str
  | _, [], .nil => rfl
  | _, z :: zs, .cons h t => by
    cases h with
    | str => rw [dp_strsI t]; rfl
theorem rows_kp {K : PySem.W.Frag} {H H' : Hp} {p : Addr} (hp : ∃ ys, H p = some (.lst ys)) (k : Kp p H H') : ∀ {vs : List V} {ds : List PyData}, (∀ d ∈ ds, ∃ zs : List Str, d = .tuple (zs.map PyData.str)) → DpAll K H vs ds → DpAll K H' vs ds
  | _, _, _, .nil => .nil
  | _, _, hd, .cons h t => by
    obtain ⟨zs, rfl⟩ := hd _ List.mem_cons_self
    refine .cons ?_ (rows_kp hp k (fun d hm => hd d (List.mem_cons_of_mem _ hm)) t)
    cases h with
    | tup h a =>
      rw [dp_strsI a] at h
      exact .tup (SqT.kp h hp k) (dp_strs zs)
theorem ren_kp {K : PySem.W.Frag} {H H' : Hp} {p : Addr} {v : V} {m m' : Nat} {ms' : List Str} {ws ws' : List Int} {Ms Ms' : List (List (List Int))} (hp : ∃ ys, H p = some (.lst ys)) (k : Kp p H H') (h : Dp K H v (.tuple (OGX.sortD (renX m ms' ws ws' Ms Ms' m')))) : Dp K H' v (.tuple (OGX.sortD (renX m ms' ws ws' Ms Ms' m'))) := by
  cases h with
  | tup h a =>
    refine .tup (SqT.kp h hp k) (rows_kp hp k (fun d hd => ?_) a)
    have hd := sortD_mem.mp hd
    unfold renX at hd
    split at hd
    · obtain ⟨r, _, rfl⟩ := List.mem_map.mp hd
      exact ⟨nmRow ms' r, rfl⟩
    · cases hd
theorem eqv_none {ds : List PyData} : PyData.eqv (.tuple ds) (.tuple []) = decide (ds = []) := by
  cases ds with
  | nil => simp [PyData.eqv, PyData.eqvAll]
  | cons d r => simp [PyData.eqv, PyData.eqvAll]
theorem u65 {k : Nat} {A : Around} (r : Room k A) : A.units + 65 < cLine := by
  have := r.un
  omega
section
variable {P : Program} {w : World} {K : PySem.W.Frag} {mg : Str → Option Value} {base : Heap}
def spRight2 (Pt : Addr) : Sp := fun vs H Q _ => ∃ p : Addr, vs = [.ref p] ∧ Pot 900000 H p ∧ TabS H Pt jq ∧ ∀ H', KpN p H H' → TabS H' Pt jq → Q (.bl true) H'
theorem ok_l_right (T : Txt K mg) (XT : TxtX K mg T) (XM : TxtM K mg T) {c Pt : Addr} (J : JAt K mg T c) (TB : TabB base mg c Pt) : OGX.FnG P w K mg base 12 T.f_l_right T.fd_l_right ["pot"] (spRight2 Pt) := by
  refine OGX.okG T.F_l_right sc_l_right (fun vs H Q E h => ?_) (fun cdv A outer s H vs Q E hG hr h => ?_)
  · obtain ⟨p, rfl, _⟩ := h
    rfl
  · obtain ⟨p, rfl, hP, hT, q⟩ := h
    refine ⟨_, (pss_cons (ps_set (i := 1) sc_l_right.nd rfl (Or.inl rfl) (pe_call (ok_l_book_drawn T) (hr.mono (by decide)) (by rfl) T.g_l_book_drawn T.F_l_book_drawn.kp T.b_l_book_drawn .nil pass0 (pa_cons (pv 0) (pa_cons (pe_lst (pa_cons pe_int (pa_cons pe_int (pa_cons pe_int (pa_cons pe_int (pa_cons pe_int (pa_cons pe_int pa_nil))))))) (pa_cons (pe_lst (pa_cons pe_int (pa_cons pe_int (pa_cons pe_int (pa_cons pe_int pa_nil))))) (pa_cons pe_int (pa_cons pe_bl pa_nil)))))))
  (pss_cons (ps_set (i := 2) sc_l_right.nd rfl (Or.inl rfl) (pe_call (ok_l_book_other T) (hr.mono (by decide)) (by rfl) T.g_l_book_other T.F_l_book_other.kp T.b_l_book_other .nil pass0 (pa_cons (pv 0) (pa_cons (pv 1) (pa_cons (pe_lst (pa_cons (pe_callB call_len_seq (by rfl) T.n_len PySem.boot_len (pa_cons (pe_dget (hu_of hr) (pv 1) pe_str (fun _ _ => rfl)) pa_nil)) (pa_cons pe_int (pa_cons pe_int pa_nil)))) (pa_cons pe_bl pa_nil))))))
  (pss_cons (ps_par3 (i := 3) (j := 4) (l := 5) (by rfl) sc_l_right.nd rfl rfl rfl (by decide) (by decide) (by decide) rfl rfl rfl (pa_cons (pe_make XT.mkB (ok_Book_init2 T XT) (hr.mono (by decide)) (by rfl) T.g_Book T.b_Book_init .nil passL (pa_cons (pe_call (ok_l_book_text T) (hr.mono (by decide)) (by rfl) T.g_l_book_text T.F_l_book_text.kp T.b_l_book_text .nil pass0 (pa_cons (pv 1) pa_nil)) pa_nil)) (pa_cons (pe_make XT.mkB (ok_Book_init2 T XT) (hr.mono (by decide)) (by rfl) T.g_Book T.b_Book_init .nil passL (pa_cons (pe_call (ok_l_book_text T) (hr.mono (by decide)) (by rfl) T.g_l_book_text T.F_l_book_text.kp T.b_l_book_text .nil pass0 (pa_cons (pv 2) pa_nil)) pa_nil)) (pa_cons (pe_call (ok_l_renamings T) (hr.mono (by decide)) (by rfl) T.g_l_renamings T.F_l_renamings.kp T.b_l_renamings .nil pass0 (pa_cons (pv 1) (pa_cons (pv 2) pa_nil))) pa_nil))) (by rfl))
  (pss_cons (ps_if (pt_cmpR op_ne (pe_callB (OGX.call_reprP hG hr.units) (by rfl) T.n_repr (by decide +kernel) (pa_cons (pe_call (ok_renamings T XT XM) (hr.mono (by decide)) (by rfl) T.g_renamings T.F_renamings.kp T.b_renamings .nil passL (pa_cons (pv 3) (pa_cons (pv 4) pa_nil))) pa_nil)) (pe_callB (OGX.call_reprP hG hr.units) (by rfl) T.n_repr (by decide +kernel) (pa_cons (pv 5) pa_nil)) (nomark _)) (pss_one (ps_ret pe_bl)) pss_nil)
  (pss_cons (ps_if (pt_cmpR op_ne (pe_callB (OGX.call_reprP hG hr.units) (by rfl) T.n_repr (by decide +kernel) (pa_cons (OGX.pe_callK0 (ok_renamings T XT XM) (hr.mono (by decide)) (by rfl) T.g_renamings T.F_renamings.kp (kb_renamings T.F_renamings) passL (pk_cons (pv 3) (pk_cons (pv 4) pk_nil))) pa_nil)) (pe_callB (OGX.call_reprP hG hr.units) (by rfl) T.n_repr (by decide +kernel) (pa_cons (pe_call (ok_l_renamings T) (hr.mono (by decide)) (by rfl) T.g_l_renamings T.F_l_renamings.kp T.b_l_renamings .nil pass0 (pa_cons (pv 2) (pa_cons (pv 1) pa_nil))) pa_nil)) (nomark _)) (pss_one (ps_ret pe_bl)) pss_nil)
  (pss_cons (ps_set (i := 6) sc_l_right.nd rfl (Or.inl rfl) (pe_call (ok_renamings T XT XM) (hr.mono (by decide)) (by rfl) T.g_renamings T.F_renamings.kp T.b_renamings .nil passL (pa_cons (pv 3) (pa_cons (pv 3) pa_nil))))
  (pss_cons (ps_if (PW.pt (pw_or (pt_cmpR op_ne (pe_callB (OGX.call_reprP hG hr.units) (by rfl) T.n_repr (by decide +kernel) (pa_cons (pv 6) pa_nil)) (pe_callB (OGX.call_reprP hG hr.units) (by rfl) T.n_repr (by decide +kernel) (pa_cons (pe_call (ok_l_renamings T) (hr.mono (by decide)) (by rfl) T.g_l_renamings T.F_l_renamings.kp T.b_l_renamings .nil pass0 (pa_cons (pv 1) (pa_cons (pv 1) pa_nil))) pa_nil)) (nomark _)) (pw_or1 (pt_cmpR (OGX.op_notInT (u65 hr)) (pe_dget (hu_of hr) (pv 1) pe_str (fun _ _ => rfl)) (pv 6) rfl)))) (pss_one (ps_ret pe_bl)) pss_nil)
  (pss_cons (ps_if (PW.pt (pw_and (pt_cmpR (op_neD hr.units) (pv 5) (pe_tup pa_nil) (nomark _)) (pw_and1 (pt_cmpR op_ne (pe_callB call_len_seq (by rfl) T.n_len PySem.boot_len (pa_cons (pv 6) pa_nil)) (pe_callB call_len_seq (by rfl) T.n_len PySem.boot_len (pa_cons (pv 5) pa_nil)) (nomark _))))) (pss_one (ps_ret pe_bl)) pss_nil)
  (pss_cons (ps_set (i := 7) sc_l_right.nd rfl (Or.inl rfl) (pe_make XT.mkB (ok_Book_init2 T XT) (hr.mono (by decide)) (by rfl) T.g_Book T.b_Book_init .nil passL (pa_cons (pe_call (ok_l_book_text T) (hr.mono (by decide)) (by rfl) T.g_l_book_text T.F_l_book_text.kp T.b_l_book_text .nil pass0 (pa_cons (pe_call (ok_l_other_sort T) (hr.mono (by decide)) (by rfl) T.g_l_other_sort T.F_l_other_sort.kp T.b_l_other_sort .nil pass0 (pa_cons (pv 0) (pa_cons (pv 1) pa_nil))) pa_nil)) pa_nil)))
  (pss_one (ps_ret (pe_and (pe_call (ok_l_is_refused T XT XM J TB) (hr.mono (by decide)) (by rfl) T.g_l_is_refused T.F_l_is_refused.kp T.b_l_is_refused .nil pass0 (pa_cons (pv 3) (pa_cons (pv 7) pa_nil))) (pe_and (pe_call (ok_l_is_refused T XT XM J TB) (hr.mono (by decide)) (by rfl) T.g_l_is_refused T.F_l_is_refused.kp T.b_l_is_refused .nil pass0 (pa_cons (pv 7) (pa_cons (pv 3) pa_nil))) (pe_one (pe_cmpR op_eq (pe_callB (OGX.call_reprP hG hr.units) (by rfl) T.n_repr (by decide +kernel) (pa_cons (pe_call (ok_renamings T XT XM) (hr.mono (by decide)) (by rfl) T.g_renamings T.F_renamings.kp T.b_renamings .nil passL (pa_cons (pv 3) (pa_cons (pv 4) pa_nil))) pa_nil)) (pe_callB (OGX.call_reprP hG hr.units) (by rfl) T.n_repr (by decide +kernel) (pa_cons (pv 5) pa_nil)) (nomark _)))))))))))))))), ?_⟩
    have wide : ∀ {n : Nat}, n ≤ 1000 → n ≤ sizeLine := fun h => Nat.le_trans h (by decide)
    refine ⟨.ref p, rfl, wide (show 6 ≤ 1000 by decide), fun l1 hl1 => ⟨wide (show 4 ≤ 1000 by decide), fun l2 hl2 => ?_⟩⟩
    have s1 := same_new (o := .lst (([0, 0, 0, 2, 3, 5] : List Int).map V.int)) hl1
    have s2 := same_new (o := .lst (([2, 3, 1, 4] : List Int).map V.int)) hl2
    have g1 := s2 _ _ (upd_same (H := H) (a := l1) (o := .lst (([0, 0, 0, 2, 3, 5] : List Int).map V.int)))
    refine ⟨p, l1, l2, [0, 0, 0, 2, 3, 5], [2, 3, 1, 4], 3, 890000, false, rfl, (hP.same (s1.trans s2)).mono (by decide), SqL.of g1, hP.ne hl1, by simp, by simp, by decide, SqL.of upd_same, (hP.same s1).ne hl2, by decide, by decide, by decide, by decide, by decide, ?_⟩
    intro o b m ms ks ws Ms H1 hbb hm d1 no nop hB ok
    have d1 : Dr p 890000 H H1 := ⟨(Same.kp (s1.trans s2)).trans d1.1, d1.2⟩
    clear s1 s2 g1
    have hb : b = 0 ∨ b ∈ primesL := by
      simp only [List.mem_cons, List.mem_nil_iff, or_false] at hbb
      rcases hbb with rfl | rfl | rfl | rfl | rfl | rfl <;> decide
    have z5100 := book_len hB ok
    have mats := mats_of hB ok
    have hml := ok.nm.len
    have hm4 := ok.m4
    have hm1 := ok.m1
    obtain ⟨kvs, tm, tw, tk, td, hO, hl10, v1, v2, hT2, _⟩ := id hB
    refine ⟨.ref p, rfl, .ref o, rfl, .ref o, rfl, o, _, rfl, dget hO v2, tm, _, rfl, .inr (SqT.of hT2), ?_⟩
    rw [List.length_map, hml]
    refine ⟨wide (show 3 ≤ 1000 by decide), fun ln hln => ?_⟩
    have s2 := same_new (o := .lst (([m, 2, 3] : List Nat).map fun (n : Nat) => V.int (n : Int))) hln
    refine ⟨p, o, ln, 870000, b, m, ms, ks, ws, Ms, false, [m, 2, 3], rfl, (d1.2.same s2).mono (by decide), hB.same s2, ok, upd_same, d1.2.ne hln, (by show 1 ≤ 3; decide), (by show 3 ≤ 10; decide), fun n hn => ?_, fun r m' ms' ws' Ms' H2 d2 hR ok' => ?_⟩
    · simp only [List.mem_cons, List.mem_nil_iff, or_false] at hn
      omega
    have hB2 := (hB.same s2).dr (d1.2.same s2) d2
    have d2 : Dr p 870000 H H2 := ⟨(d1.1.trans (Same.kp s2)).trans d2.1, d2.2⟩
    clear s2
    have z'5100 := book_len hR ok'
    have mats' := mats_of hR ok'
    refine ⟨.ref o, rfl, o, b, m, ms, ks, ws, Ms, rfl, hB2, ok, fun H3 s3 => ?_⟩
    obtain ⟨z, ez⟩ : ∃ z, z = bookText b ms ws ks Ms := ⟨_, rfl⟩
    rw [← ez] at z5100 ⊢
    refine book_made (T := T) ez hb ok mats (by omega) fun x H4 s4 nx hX => ?_
    have s24 := s3.trans s4
    refine ⟨.ref r, rfl, r, b, m', ms', ks, ws', Ms', rfl, hR.same s24, ok', fun H5 s5 => ?_⟩
    obtain ⟨z', ez'⟩ : ∃ z', z' = bookText b ms' ws' ks Ms' := ⟨_, rfl⟩
    rw [← ez'] at z'5100 ⊢
    refine book_made (T := T) ez' hb ok' mats' (by omega) fun y H6 s6 ny hY => ?_
    have s46 := s5.trans s6
    have hX6 : BO T H6 x z b m ms ks ws Ms := ⟨hX.same s46, ok, mats⟩
    have hY6 : BO T H6 y z' b m' ms' ks ws' Ms' := ⟨hY, ok', mats'⟩
    have s26 := s24.trans s46
    refine ⟨.ref o, rfl, .ref r, rfl, o, r, b, b, m, m', ms, ks, ms', ws, ws', Ms, Ms', rfl, hB2.same s26, ok, hR.same s26, ok', fun nt H7 s7 hN => ?_⟩
    have hX7 := hX6.same s7
    have hY7 := hY6.same s7
    have s27 := s26.trans s7
    have d7 := d2.sm s27
    have hB7 := hB2.same s27
    have hR7 := hR.same s27
    clear s3 s4 s5 s6 s24 s46 hX hY hX6 hY6
    refine ⟨_, _, _, rfl, ?_⟩
    have hm4' := ok'.m4
    obtain ⟨dk12, sh12⟩ := ren_ok (m := m) (ws := ws) (ws' := ws') (Ms := Ms) (Ms' := Ms') ok'.nm.is ok'.nm.len hm4
    obtain ⟨dk21, sh21⟩ := ren_ok (m := m') (ws := ws') (ws' := ws) (Ms := Ms') (Ms' := Ms) ok.nm.is hml hm4'
    obtain ⟨dk11, sh11⟩ := ren_ok (m := m) (ws := ws) (ws' := ws) (Ms := Ms) (Ms' := Ms) ok.nm.is hml hm4
    have eqs : ∀ {s : Str} {A B : Prop}, B → (if (!decide (V.str s = V.str s)) = true then A else B) := fun {s A B} h => by
      rw [decide_eq_true rfl]
      exact iteF h
    refine ⟨.ref x, rfl, .ref y, rfl, x, y, z, z', b, b, m, m', ms, ks, ms', ks, ws, ws', Ms, Ms', rfl, hX7, hY7, .inl ⟨rfl, rfl, fun t1 H8 s8 hD1 => ?_⟩⟩
    refine ⟨_, _, rfl, hD1, dk12.sh, dk12.nd, Nat.le_trans dk12.dp (by decide), Nat.le_trans dk12.ln (by decide), ?_⟩
    refine ⟨.ref nt, rfl, _, _, rfl, Dp.same s8 hN, dk12.sh, dk12.nd, Nat.le_trans dk12.dp (by decide), Nat.le_trans dk12.ln (by decide), rfl, _, rfl, eqs ?_⟩
    refine ⟨.ref x, rfl, .ref y, rfl, y, x, z', z, b, b, m', m, ms', ks, ms, ks, ws', ws, Ms', Ms, rfl, hY7.same s8, hX7.same s8, .inl ⟨rfl, rfl, fun t2 H9 s9 hD2 => ?_⟩⟩
    refine ⟨_, _, rfl, hD2, dk21.sh, dk21.nd, Nat.le_trans dk21.dp (by decide), Nat.le_trans dk21.ln (by decide), ?_⟩
    have s79 := s8.trans s9
    refine ⟨.ref r, rfl, .ref o, rfl, r, o, b, b, m', m, ms', ks, ms, ws', ws, Ms', Ms, rfl, hR7.same s79, ok', hB7.same s79, ok, fun t3 H10 s10 hD3 => ?_⟩
    refine ⟨_, _, rfl, hD3, dk21.sh, dk21.nd, Nat.le_trans dk21.dp (by decide), Nat.le_trans dk21.ln (by decide), rfl, _, rfl, eqs ?_⟩
    have s710 := s79.trans s10
    have hX10 := hX7.same s710
    refine ⟨.ref x, rfl, .ref x, rfl, x, x, z, z, b, b, m, m, ms, ks, ms, ks, ws, ws, Ms, Ms, rfl, hX10, hX10, .inl ⟨rfl, rfl, fun mi H11 s11 hM => ?_⟩⟩
    have s711 := s710.trans s11
    refine ⟨.ref mi, rfl, _, _, rfl, hM, dk11.sh, dk11.nd, Nat.le_trans dk11.dp (by decide), Nat.le_trans dk11.ln (by decide), ?_⟩
    refine ⟨.ref o, rfl, .ref o, rfl, o, o, b, b, m, m, ms, ks, ms, ws, ws, Ms, Ms, rfl, hB7.same s711, ok, hB7.same s711, ok, fun t4 H12 s12 hD4 => ?_⟩
    refine ⟨_, _, rfl, hD4, dk11.sh, dk11.nd, Nat.le_trans dk11.dp (by decide), Nat.le_trans dk11.ln (by decide), rfl, _, rfl, ?_⟩
    rw [decide_eq_true rfl]
    refine iteF ?_
    have s712 := s711.trans s12
    have hM12 := Dp.same s12 hM
    have hB12 := hB7.same s712
    obtain ⟨kv2, tm2, tw2, tk2, td2, hO2, _, w1, w2, hU2, _⟩ := id hB12
    refine ⟨.ref o, rfl, o, _, rfl, dget hO2 w2, .ref mi, rfl, _, _, .tup (SqT.of hU2) (dp_strs ms), hM12, shp_strs ok.nm.is, sh11, ?_⟩
    rw [own_in hml hm4 ok.nm.is]
    refine ⟨_, rfl, ?_⟩
    refine iteF ?_
    dsimp only [tNext, tSeq]
    refine ifs_two (fun _ => False) (fun H' => Same H12 H') (fun _ h => h.elim) (fun H13 s13 => ?_) (fun _ he => ?_)
    rotate_left
    · refine ⟨.ref nt, rfl, Nat.zero_le _, fun te hte => ?_⟩
      have se := same_new (o := .tup []) hte
      refine ⟨_, _, Dp.same (s712.trans se) hN, .tup (SqT.of upd_same) .nil, sh12, by decide, ?_⟩
      rw [eqv_none]
      by_cases en : OGX.sortD (renX m ms' ws ws' Ms Ms' m') = []
      · rw [decide_eq_true en]
        refine ⟨_, rfl, ?_⟩
        refine iteF ?_
        exact iteF (he _ se)
      · rw [decide_eq_false en]
        refine ⟨_, rfl, ?_⟩
        refine iteT ?_
        obtain ⟨ai, xi, ei, qi, li⟩ := Dp.tupI (Dp.same se hM12)
        obtain ⟨an, xn, ean, qn, ln'⟩ := Dp.tupI (Dp.same (s712.trans se) hN)
        refine ⟨.ref mi, rfl, ai, xi, by rw [ei], .inr qi, .ref nt, rfl, an, xn, by rw [ean], .inr qn, rfl, _, rfl, ?_⟩
        have el : xi.length = xn.length := by
          rw [li, ln', sortD_len, sortD_len]
          have en : renX m ms' ws ws' Ms Ms' m' ≠ [] := fun z => en (by rw [z, sortD_nil])
          unfold renX at en ⊢
          by_cases e : m = m'
          · rw [if_pos e] at en ⊢
            rw [if_pos rfl, List.length_map, List.length_map]
            exact fnd_count hm4 (by rw [ok.ml, ok'.ml]) fun z => en (by rw [z]; rfl)
          · rw [if_neg e] at en
            exact absurd rfl en
        rw [el, decide_eq_true rfl]
        exact iteF (he _ se)
    dsimp only [tNext, tSeq]
    have s713 := s712.trans s13
    have d13 := d7.sm s713
    have hX13 := hX7.same s713
    have hY13 := hY7.same s713
    have hN13 := Dp.same s713 hN
    have hB13 := hB7.same s713
    refine ⟨.ref p, rfl, .ref o, rfl, p, o, b, m, 860000, ms, ks, ws, Ms, rfl, d13.2.mono (by decide), hB13, ok, hb, fun q3 b2 m2 ms2 ks2 ws2 Ms2 H14 d14 hQ ok2 hb2 hne => ?_⟩
    have lst13 := d13.2.lst
    have hX14 := hX13.kp lst13 d14.1
    have hY14 := hY13.kp lst13 d14.1
    have hN14 := ren_kp lst13 d14.1 hN13
    have hT14 := tabS_kp hT hP.lst (d13.1.trans d14.1)
    have k14 := d13.1.trans d14.1
    have z2len := book_len hQ ok2
    have mats2 := mats_of hQ ok2
    refine ⟨q3, b2, m2, ms2, ks2, ws2, Ms2, rfl, hQ, ok2, fun H15 s15 => ?_⟩
    obtain ⟨z2, ez2⟩ : ∃ z2, z2 = bookText b2 ms2 ws2 ks2 Ms2 := ⟨_, rfl⟩
    rw [← ez2] at z2len ⊢
    refine book_made (T := T) ez2 hb2 ok2 mats2 (by omega) fun w3 H16 s16 nw hW => ?_
    have s146 := s15.trans s16
    have hW16 : BO T H16 w3 z2 b2 m2 ms2 ks2 ws2 Ms2 := ⟨hW, ok2, mats2⟩
    refine ⟨.ref x, rfl, .ref w3, rfl, x, w3, z, z2, b, b2, m, m2, ms, ks, ms2, ks2, ws, ws2, Ms, Ms2, rfl, hX14.same s146, hW16, fun e => hne ⟨e.1.symm, e.2.symm⟩, hT14.ext s146, fun H17 e17 t17 => ?_⟩
    refine ⟨_, rfl, ?_⟩
    refine iteT ?_
    refine ⟨.ref w3, rfl, .ref x, rfl, w3, x, z2, z, b2, b, m2, m, ms2, ks2, ms, ks, ws2, ws, Ms2, Ms, rfl, hW16.extN e17, (hX14.same s146).extN e17, hne, t17, fun H18 e18 t18 => ?_⟩
    refine ⟨_, rfl, ?_⟩
    refine iteT ?_
    have e168 := e17.trans e18
    refine ⟨.ref x, rfl, .ref y, rfl, x, y, z, z', b, b, m, m', ms, ks, ms', ks, ws, ws', Ms, Ms', rfl, (hX14.same s146).extN e168, (hY14.same s146).extN e168, .inl ⟨rfl, rfl, fun t5 H19 s19 hD5 => ?_⟩⟩
    refine ⟨_, _, rfl, hD5, dk12.sh, dk12.nd, Nat.le_trans dk12.dp (by decide), Nat.le_trans dk12.ln (by decide), ?_⟩
    refine ⟨.ref nt, rfl, _, _, rfl, Dp.same s19 (Dp.extN e168 (Dp.same s146 hN14)), dk12.sh, dk12.nd, Nat.le_trans dk12.dp (by decide), Nat.le_trans dk12.ln (by decide), rfl, ?_⟩
    rw [decide_eq_true rfl]
    refine q H19 (fun b o nb e nt => ?_) (t18.ext s19)
    exact s19 _ _ (e168 _ _ (s146 _ _ (k14 _ _ nb e)) nt)
end
end OG
set_option Elab.async false
set_option linter.all false
set_option maxRecDepth 100000
set_option maxHeartbeats 8000000
namespace OG
open PySem PySem.Spec PyProof.Rows L2
def Nears (H : Hp) (xs : List V) : Prop := ∀ x ∈ xs, NearV H x
theorem Nears.nil (H : Hp) : Nears H [] := fun _ h => by cases h
theorem Nears.cons {H : Hp} {x : V} {xs : List V} (h : NearV H x) (r : Nears H xs) : Nears H (x :: xs) := fun y hy => by
  rcases List.mem_cons.mp hy with e | e
  · rw [e]
    exact h
  · exact r y e
theorem Nears.app {H : Hp} {xs ys : List V} (a : Nears H xs) (b : Nears H ys) : Nears H (xs ++ ys) := fun x hx => (List.mem_append.mp hx).elim (a x) (b x)
theorem Nears.same {H H' : Hp} {xs : List V} (a : Nears H xs) (s : Same H H') : Nears H' xs := fun x hx => NearV.same s (a x hx)
def NearO (o : HO) : Prop := (∃ xs, o = .lst xs) ∨ (∃ xs, o = .tup xs) ∨ ∃ kvs, o = .dK kvs
theorem near_new {H : Hp} {a : Addr} {o : HO} {xs : List V} (n : H a = none) (N : Nears H xs) (ho : NearO o) : Nears (upd H a o) (.ref a :: xs) := by
  refine Nears.cons ?_ (N.same (same_new n))
  rcases ho with ⟨ys, rfl⟩ | ⟨ys, rfl⟩ | ⟨ys, rfl⟩
  · exact .inl ⟨ys, upd_same⟩
  · exact .inr (.inl ⟨ys, upd_same⟩)
  · exact .inr (.inr ⟨ys, upd_same⟩)
theorem NearV.dr {H H' : Hp} {p : Addr} {k : Nat} (d : Dr p k H H') : ∀ {v : V}, NearV H v → NearV H' v
  | .non, h => h
  | .bl _, h => h
  | .int _, h => h
  | .str _, h => h
  | .ref a, h => by
    by_cases e : a = p
    · rw [e]
      obtain ⟨x, y, c, h1, _⟩ := d.2
      exact .inl ⟨_, h1⟩
    · rcases h with ⟨xs, h⟩ | ⟨xs, h⟩ | ⟨xs, h⟩
      · exact .inl ⟨xs, d.1 _ _ e h⟩
      · exact .inr (.inl ⟨xs, d.1 _ _ e h⟩)
      · exact .inr (.inr ⟨xs, d.1 _ _ e h⟩)
theorem nsc {H : Hp} {z : Str} (h : z.length ≤ 900000) : NearV H (.str z) := h
theorem nnew {H : Hp} {a : Addr} {xs : List V} (o : HO) (ho : NearO o) (n : H a = none) (N : Nears H xs ∧ True) : Nears (upd H a o) (.ref a :: xs) ∧ Same H (upd H a o) := ⟨near_new n N.1 ho, same_new n⟩
theorem nearT (xs : List V) : NearO (.tup xs) := .inr (.inl ⟨xs, rfl⟩)
theorem nearL (xs : List V) : NearO (.lst xs) := .inl ⟨xs, rfl⟩
theorem nearD (xs : List (Key × V)) : NearO (.dK xs) := .inr (.inr ⟨xs, rfl⟩)
theorem near_put {H : Hp} {a : Addr} {xs : List V} {u o : HO} (n : H a = none) (N : Nears H xs) (ho : NearO o) : Nears (upd (upd H a u) a o) (.ref a :: xs) := by
  have e : upd (upd H a u) a o = upd H a o := by
    funext b
    by_cases hb : b = a
    · rw [hb, upd_same, upd_same]
    · rw [upd_ne hb, upd_ne hb, upd_ne hb]
  rw [e]
  exact near_new n N ho
theorem same_put {H : Hp} {a : Addr} {u o : HO} (n : H a = none) : Same H (upd (upd H a u) a o) := fun b x e => by
  rw [upd_ne (ne_of_none e n), upd_ne (ne_of_none e n)]
  exact e
section
variable {P : Program} {w : World} {K : PySem.W.Frag} {mg : Str → Option Value} {base : Heap}
def spOdd : Sp := fun vs H Q _ => ∃ (p : Addr) (k : Nat), vs = [.ref p] ∧ Pot (k + 1) H p ∧ ∀ (v : V) (H' : Hp), Dr p k H H' → NearV H' v → Q v H'
end
end OG
set_option Elab.async false
set_option linter.all false
set_option maxRecDepth 100000
set_option maxHeartbeats 8000000
namespace OG
open PySem PySem.Spec PyProof.Rows L2
theorem cut_one : ∀ {ns : List Int}, ns.length ≤ 1 → cutV (ns.map V.int) none (some 1) = ns.map V.int
  | [], _ => rfl
  | [x], _ => rfl
  | _ :: _ :: _, h => by
    rw [List.length_cons, List.length_cons] at h
    omega
theorem bit_mul {c n : Int} (hn : n = 0 ∨ n = 1) (hc : c.natAbs < 2 ^ 18) : (c * n).natAbs < 2 ^ 20 := by
  rcases hn with rfl | rfl
  · rw [Int.mul_zero]
    decide
  · rw [Int.mul_one]
    exact Nat.lt_trans hc (by decide)
section
variable {P : Program} {w : World} {K : PySem.W.Frag} {mg : Str → Option Value} {base : Heap}
def spPot (K : PySem.W.Frag) : Sp := fun vs H Q _ => ∃ (a : Addr) (ns : List Int) (n : Nat), vs = [.ref a, .int (n : Int)] ∧ n ≤ 1 ∧ SqL K H a (ns.map V.int) ∧ ns.length ≤ 63 ∧ (∀ z ∈ ns, Builtin.Int.intBits z ≤ 1048576) ∧ ∀ (q : Addr) (H' : Hp), Same H H' → H q = none → Pot 900000 H' q → Q (.ref q) H'
theorem ok_l_pot (T : Txt K mg) : FnOk P w K mg base CX0 1 T.f_l_pot T.fd_l_pot ["script", "place"] (spPot K) := by
  refine T.F_l_pot.ok sc_l_pot (fun vs H Q E h => ?_) (fun cdv A outer s H vs Q E hr h => ?_)
  · obtain ⟨a, ns, n, rfl, _⟩ := h
    rfl
  · obtain ⟨a, ns, n, rfl, hn1, hS, hl, hb, q⟩ := h
    have hn01 : (n : Int) = 0 ∨ (n : Int) = 1 := by omega
    refine ⟨_, (pss_cons (ps_set (i := 2) sc_l_pot.nd rfl (Or.inl rfl) (pe_ifExp (pt_cmpR op_lt (pv 1) (pe_callB call_len_seq (by rfl) T.n_len PySem.boot_len (pa_cons (pv 0) pa_nil)) (nomark _)) (pe_ix ix_list (pv 0) (pv 1) (fun _ _ => rfl)) (pe_op op_add (pe_op op_add (pe_op op_mod (pe_callB (cr_sum rfl) (by rfl) T.n_sum (by decide +kernel) (pa_cons (pe_slice sl_list (pv 0) po_none (po_some pe_int)) pa_nil)) pe_int) (pe_op op_mulW pe_int (pv 1))) pe_int)))
  (pss_cons (ps_set (i := 3) sc_l_pot.nd rfl (Or.inl rfl) (pe_op op_mulW (pe_op op_mod (pe_callTy call_int1 (by rfl) T.n_int (by decide +kernel) (pa_cons (pe_callB call_abs (by rfl) T.n_abs (by decide +kernel) (pa_cons (pv 2) pa_nil)) pa_nil)) (pe_op op_powW (pe_op op_powW pe_int pe_int) pe_int)) (pe_callTy call_int1 (by rfl) T.n_int (by decide +kernel) (pa_cons (pe_cmpR op_ge (pe_callB call_abs (by rfl) T.n_abs (by decide +kernel) (pa_cons (pv 2) pa_nil)) (pe_op op_powW pe_int pe_int) (nomark _)) pa_nil))))
  (pss_cons (ps_set (i := 4) sc_l_pot.nd rfl (Or.inl rfl) (pe_op op_mod (pe_callTy call_int1 (by rfl) T.n_int (by decide +kernel) (pa_cons (pv 2) pa_nil)) pe_int))
  (pss_one (ps_ret (pe_lst (pa_cons (pv 3) (pa_cons (pe_op op_mod (pe_callTy call_int1 (by rfl) T.n_int (by decide +kernel) (pa_cons (pe_op op_add (pe_op op_add (pe_op op_mulW (pv 4) pe_int) (pe_op op_mulW (pe_op op_mulW pe_int (pv 1)) (pv 1))) pe_int) pa_nil)) pe_int) (pa_cons pe_int pa_nil))))))))), ?_⟩
    refine seq_fin (fun σ' H' => ∃ c : Int, σ' = [some (.ref a), some (.int (n : Int)), some (.int c), none, none] ∧ Same H H') ?_ (fun fin => ?_)
    · rintro σ' H' ⟨c, rfl, s1⟩
      refine ⟨.int c, rfl, c, rfl, .inl ⟨_, rfl, ?_⟩⟩
      refine ⟨_, _, rfl, rfl, pow_c (by decide), _, _, rfl, rfl, pow_c (by decide +kernel), _, _, rfl, rfl, (show (0 : Int) < ((10 : Int) ^ (60 : Int).toNat) ^ (5 : Int).toNat by decide +kernel), ?_⟩
      refine ⟨.int c, rfl, c, rfl, _, _, rfl, rfl, pow_c (by decide), _, _, rfl, rfl, .inr ⟨_, rfl, ?_⟩⟩
      obtain ⟨ac, hac⟩ : ∃ ac : Int, ac = (if c < 0 then -c else c) := ⟨_, rfl⟩
      rw [← hac]
      have m0 : 0 ≤ ac % ((10 : Int) ^ (60 : Int).toNat) ^ (5 : Int).toNat := Int.emod_nonneg _ (by decide +kernel)
      have m1 : ac % ((10 : Int) ^ (60 : Int).toNat) ^ (5 : Int).toNat < 2 ^ 1000 := Int.lt_trans (Int.emod_lt_of_pos _ (by decide +kernel)) (by decide +kernel)
      obtain ⟨bo, hbo⟩ : ∃ bo : Int, bo = (if decide ((10 : Int) ^ (18 : Int).toNat ≤ ac) = true then 1 else 0) := ⟨_, rfl⟩
      rw [← hbo]
      have b01 : bo = 0 ∨ bo = 1 := by
        rw [hbo]
        split
        · exact .inr rfl
        · exact .inl rfl
      have e1000 : (2 : Int) ^ 1000 = ((2 ^ 1000 : Nat) : Int) := by decide +kernel
      have key : ∀ mo : Int, 0 ≤ mo → mo < 2 ^ 1000 → mo.natAbs < 2 ^ 1000 ∧ 0 ≤ mo * bo ∧ mo * bo < 2 ^ 1000 := by
        intro mo m0 m1
        refine ⟨by omega, ?_, ?_⟩
        · rcases b01 with e | e
          · rw [e, Int.mul_zero]
            exact Int.le_refl _
          · rw [e, Int.mul_one]
            exact m0
        · rcases b01 with e | e
          · rw [e, Int.mul_zero]
            decide +kernel
          · rw [e, Int.mul_one]
            exact m1
      obtain ⟨k1, o0, o1⟩ := key _ m0 m1
      have bn : bo.natAbs < 2 ^ 2 := by omega
      have nn : (n : Int).natAbs < 2 ^ 2 := by omega
      refine ⟨_, _, rfl, rfl, wide_mul (a := 1000) (b := 2) k1 bn (by decide) (by decide) (by decide), ?_⟩
      refine ⟨.int c, rfl, .inl ⟨c, rfl, _, _, rfl, rfl, (show (0 : Int) < 2305843009213693951 by decide), ?_⟩⟩
      have p0 : 0 ≤ c % 2305843009213693951 := Int.emod_nonneg _ (by decide)
      have p1 : c % 2305843009213693951 < 2305843009213693951 := Int.emod_lt_of_pos _ (by decide)
      have e61 : (2 : Nat) ^ 61 = 2305843009213693952 := by decide
      have p2 : (c % 2305843009213693951).natAbs < 2 ^ 61 := by omega
      refine ⟨_, rfl, _, rfl, _, _, rfl, rfl, wide_mul (a := 61) (b := 20) p2 (by decide) (by decide) (by decide) (by decide), ?_⟩
      refine ⟨_, rfl, _, _, rfl, rfl, wide_mul (a := 20) (b := 2) (by decide) nn (by decide) (by decide) (by decide), _, rfl, _, _, rfl, rfl, wide_mul (a := 20) (b := 2) (bit_mul hn01 (by decide)) nn (by decide) (by decide) (by decide), ?_⟩
      refine ⟨_, _, rfl, rfl, _, _, rfl, rfl, .inl ⟨_, rfl, _, _, rfl, rfl, (show (0 : Int) < 2305843009213693921 by decide), ?_⟩⟩
      refine ⟨Nat.le_trans (show 3 ≤ 1000 by decide) (by decide), fun qa hqa => ?_⟩
      refine q qa _ (s1.trans (same_new hqa)) (s1.free hqa) ⟨_, _, _, upd_same, o0, o1, Int.emod_nonneg _ (by decide), ?_, by decide, by decide⟩
      exact Int.lt_trans (Int.emod_lt_of_pos _ (by decide)) (by decide)
    · refine ⟨.int (n : Int), rfl, .ref a, rfl, a, _, rfl, .inl hS, _, _, rfl, rfl, _, rfl, ?_⟩
      rw [List.length_map]
      refine ite2 (fun h => ?_) (fun h => ?_)
      · have h : n < ns.length := by
          have := of_decide_eq_true h
          omega
        refine ⟨.ref a, rfl, .int (n : Int), rfl, a, _, (n : Int), .int ns[n], rfl, rfl, hS, atI_nat (by rw [List.getElem?_map, List.getElem?_eq_getElem h]; rfl), ?_⟩
        exact fin _ _ ⟨_, rfl, Same.refl _⟩
      · have hle : ns.length ≤ 1 := by
          by_cases z : n < ns.length
          · exact absurd (decide_eq_true (show (n : Int) < (ns.length : Int) by omega)) h
          · omega
        refine ⟨.ref a, rfl, _, rfl, a, _, rfl, hS, fun l1 hl1 => ?_⟩
        have s1 := same_new (o := .lst (cutV (ns.map V.int) none (some 1))) hl1
        refine ⟨l1, ns, rfl, SqL.of (by rw [upd_same, cut_one hle]), _, _, rfl, rfl, (show (0 : Int) < 1000003 by decide), ?_⟩
        refine ⟨.int (n : Int), rfl, _, _, rfl, rfl, wide_mul (a := 20) (b := 2) (by decide) (show (n : Int).natAbs < 2 ^ 2 by omega) (by decide) (by decide) (by decide), _, _, rfl, rfl, _, _, rfl, rfl, ?_⟩
        exact fin _ _ ⟨_, rfl, s1⟩
/-- places of cells -/
def spCells (K : PySem.W.Frag) : Sp := fun vs H Q _ => ∃ (a : Addr) (ns : List Int), vs = [.ref a, .int 2] ∧ SqL K H a (ns.map V.int) ∧ ns.length ≤ 63 ∧ ∀ (q : Addr) (c : Nat) (H' : Hp), Same H H' → c ≤ 2 → H' q = some (.lst ((List.range c).map fun (n : Nat) => V.int (n : Int))) → Q (.ref q) H'
theorem ok_l_cells (T : Txt K mg) : FnOk P w K mg base CX0 1 T.f_l_cells T.fd_l_cells ["script", "most"] (spCells K) := by
  refine T.F_l_cells.ok sc_l_cells (fun vs H Q E h => ?_) (fun cdv A outer s H vs Q E hr h => ?_)
  · obtain ⟨a, ns, rfl, _⟩ := h
    rfl
  · obtain ⟨a, ns, rfl, hS, hl, q⟩ := h
    refine ⟨_, (pss_one (ps_ret (pe_listRg (by rfl) (by rfl) T.n_list (prg_1 (by rfl) T.n_range (pe_callB (call_max2 rfl) (by rfl) T.n_max (by decide +kernel) (pa_cons pe_int (pa_cons (pe_callB (call_min2 rfl) (by rfl) T.n_min (by decide +kernel) (pa_cons (pv 1) (pa_cons (pe_callB call_len_seq (by rfl) T.n_len PySem.boot_len (pa_cons (pv 0) pa_nil)) pa_nil))) pa_nil))))))), ?_⟩
    refine ⟨.int 2, rfl, .ref a, rfl, a, _, rfl, .inl hS, ?_⟩
    rw [List.length_map]
    obtain ⟨c, hc, ec⟩ : ∃ c : Nat, c ≤ 2 ∧ (if (if (ns.length : Int) < 2 then (ns.length : Int) else 2) > 1 then (if (ns.length : Int) < 2 then (ns.length : Int) else 2) else 1) = (c : Int) := by
      by_cases h : (ns.length : Int) < 2
      · rw [if_pos h, if_neg (by omega)]
        exact ⟨1, by decide, rfl⟩
      · rw [if_neg h, if_pos (by decide)]
        exact ⟨2, by decide, rfl⟩
    refine ⟨2, _, rfl, 1, _, rfl, _, rfl, ?_⟩
    dsimp only
    rw [ec]
    refine ⟨RgOk.of_le (by omega) (by omega) (by omega) (by omega), fun l hl => ?_⟩
    refine q l c _ (same_new hl) hc ?_
    rw [upd_same]
    unfold rgV
    rw [show ((c : Int) - 0).toNat = c by omega]
    exact congrArg (fun l => some (HO.lst l)) (List.map_congr_left fun i _ => by rw [Int.zero_add])
end
end OG
set_option Elab.async false
set_option linter.all false
set_option maxRecDepth 100000
set_option maxHeartbeats 8000000
namespace OG
open PySem PySem.Spec PyProof.Rows L2 LamX
section
variable {P : Program} {w : World} {K : PySem.W.Frag} {mg : Str → Option Value} {base : Heap}
def spLaw2 (K : PySem.W.Frag) (Pt : Addr) : Sp := fun vs H Q _ => ∃ (a : Addr) (ns : List Int), vs = [.ref a] ∧ SqL K H a (ns.map V.int) ∧ ns.length ≤ 63 ∧ (∀ z ∈ ns, Builtin.Int.intBits z ≤ 1048576) ∧ TabS H Pt jq ∧ ∀ H', Q (.bl true) H'
theorem all_true : ∀ n : Nat, (List.replicate n true).all id = true
  | 0 => rfl
  | n + 1 => by
    rw [List.replicate_succ, List.all_cons, all_true n]
    rfl
theorem ok_law (T : Txt K mg) (XT : TxtX K mg T) (XM : TxtM K mg T) {c Pt : Addr} (J : JAt K mg T c) (TB : TabB base mg c Pt) : OGX.FnG P w K mg base 13 T.f_law T.fd_law ["script"] (spLaw2 K Pt) := by
  refine OGX.okG T.F_law sc_law (fun vs H Q E h => ?_) (fun cdv A outer s H vs Q E hG hr h => ?_)
  · obtain ⟨a, ns, rfl, _⟩ := h
    rfl
  · obtain ⟨a, ns, rfl, hS, hl, hb, hT, q⟩ := h
    refine ⟨_, (pss_one (ps_ret (pe_callB (cr_all rfl) (by rfl) T.n_all (by decide +kernel) (pa_cons (pe_lc (own := [("place", 1)]) (g := gName 1) (by rfl) sc_law.nd (pi_list (pe_call (ok_l_cells T) (hr.mono (by decide)) (by rfl) T.g_l_cells T.F_l_cells.kp T.b_l_cells .nil pass0 (pa_cons (pv 0) (pa_cons pe_int pa_nil)))) (blkOk_by (own := [("place", 1)]) (by rfl)) (fun _ _ _ _ _ => (pg_name (i := 1) sc_law.nd rfl (Or.inl rfl))) (fun _ _ _ _ _ => pts_nil) (fun _ _ _ _ _ => (OGX.pe_callG (ok_l_right T XT XM J TB) hG (hr.mono (by decide)) (by rfl) T.g_l_right T.F_l_right.kp T.b_l_right (pa_cons (pe_call (ok_l_pot T) (hr.mono (by decide)) (by rfl) T.g_l_pot T.F_l_pot.kp T.b_l_pot .nil pass0 (pa_cons (pv 0) (pa_cons (pv 1) pa_nil))) pa_nil)))) pa_nil)))), ?_⟩
    refine ⟨.ref a, rfl, a, ns, rfl, hS, hl, fun qc c H1 s1 hc gq => ?_⟩
    refine ⟨qc, rfl, ⟨_, SqL.of gq⟩, fun D hD => ?_⟩
    have nq : qc ≠ D := ne_of_none gq hD
    have ext : ∀ {H1 H2 : Hp} {b : Addr} {xs : List V}, ExtN H1 H2 → H1 b = some (.lst xs) → H2 b = some (.lst xs) := fun e h => e _ _ h fun _ z => by cases z
    refine lc_list (K := K) (a := qc) (xs := (List.range c).map fun (n : Nat) => V.int (n : Int)) (fun i H' => ExtN H1 H' ∧ H' D = some (.lst ((List.replicate i true).map V.bl)) ∧ TabS H' Pt jq)
      ⟨ExtN.of (same_new hD), upd_same, (hT.ext s1).ext (same_new hD)⟩ (fun i H' _ ⟨s, _⟩ => SqL.of (ext s gq)) ?_ ?_
    · rintro i u H' hu ⟨s, g3, t3⟩
      obtain ⟨hi, rfl⟩ := range_at hu
      refine ⟨rfl, ?_⟩
      refine ⟨.ref a, rfl, .int (i : Int), rfl, a, ns, i, rfl, by omega, SqL.extN hS ((ExtN.of s1).trans s), hl, hb, fun pp H2 s2 np hP => ?_⟩
      refine ⟨pp, rfl, hP, t3.ext s2, fun H3 k3 t4 => ?_⟩
      have k : ∀ {b : Addr} {o : HO}, H' b = some o → (∀ ps, o ≠ .tbl ps) → H3 b = some o := fun {b o} e n => k3 b o (ne_of_none e np) (s2 _ _ e) n
      have g5 := k g3 fun _ z => by cases z
      refine ⟨_, g5, by rw [List.length_map, List.length_replicate]; exact small1000 (by omega), fun b o e n => ?_, ?_, ?_⟩
      · rw [upd_ne (ne_of_none e hD)]
        exact k (s _ _ e n) n
      · rw [upd_same, List.replicate_succ', List.map_append]
        rfl
      · exact tabS_kp t4 ⟨_, g5⟩ kp_self
    · rintro H' ⟨s, g3, _⟩
      refine ⟨D, _, rfl, SqL.of g3, ?_⟩
      rw [all_true]
      exact q H'
end
end OG
set_option Elab.async false
set_option linter.all false
set_option maxRecDepth 100000
set_option maxHeartbeats 0
namespace OG
open PySem PySem.Spec PyProof.Rows L2 LamX
theorem all_mk {l : PySem.W.OpenLaw} {w : World} {K : PySem.W.Frag} {h : Heap} {mg : Str → Option Value} {fa Pt : Addr} (X : K.In h) (G : h.Ns mainGlobals mg) (hfa : mg "law" = some (.ref fa))
    (hG : ∃ v, mg "GREATEST" = some v ∧ PySem.W.ReadsLit h v (.int 1000000000000) []) (hPt : h.get? Pt = some { cls := .none, data := .fields #[] })
    {c_BadBook c_NoMark c_NoKind c_OtherKinds c_GateError c_Book aP cJ NnBadBook NnNoMark NnNoKind NnOtherKinds f_is_integer f_is_by f_GateError_init f_need_one_sort f_integer_of f_is_letters f_is_of f_Book_init f_Book_len f_Book_contains f_Book_eq f_Book_weight f_Book_worth f_renamings f_read_book f_read_by f_is_mark f_is_kind f_is_number f_last_agrees f_l_pot f_l_take f_l_of f_l_some f_l_cells f_l_heard f_l_book_names f_l_book_weights f_l_book_table f_l_book_twinned f_l_book_of f_l_book_drawn f_l_book_text f_l_book_picked f_l_book_renamed f_l_book_split f_l_book_changed f_l_book_other f_l_book_called f_l_orders f_l_is_renaming f_l_renamings f_l_other_sort f_l_is_refused f_l_right f_law : Addr}
    {dP ddBadBook ddNoMark ddNoKind ddOtherKinds od_is_integer od_is_by od_GateError_init od_need_one_sort od_integer_of od_is_letters od_is_of od_Book_init od_Book_len od_Book_contains od_Book_eq od_Book_weight od_Book_worth od_renamings od_read_book od_read_by od_is_mark od_is_kind od_is_number od_last_agrees od_l_pot od_l_take od_l_of od_l_some od_l_cells od_l_heard od_l_book_names od_l_book_weights od_l_book_table od_l_book_twinned od_l_book_of od_l_book_drawn od_l_book_text od_l_book_picked od_l_book_renamed od_l_book_split od_l_book_changed od_l_book_other od_l_book_called od_l_orders od_l_is_renaming od_l_renamings od_l_other_sort od_l_is_refused od_l_right od_law an_is_integer an_is_by an_GateError_init an_need_one_sort an_integer_of an_is_letters an_is_of an_Book_init an_Book_len an_Book_contains an_Book_eq an_Book_weight an_Book_worth an_renamings an_read_book an_read_by an_is_mark an_is_kind an_is_number an_last_agrees an_l_pot an_l_take an_l_of an_l_some an_l_cells an_l_heard an_l_book_names an_l_book_weights an_l_book_table an_l_book_twinned an_l_book_of an_l_book_drawn an_l_book_text an_l_book_picked an_l_book_renamed an_l_book_split an_l_book_changed an_l_book_other an_l_book_called an_l_orders an_l_is_renaming an_l_renamings an_l_other_sort an_l_is_refused an_l_right an_law : Option Addr}
    {slP sl_is_integer sl_is_by sl_GateError_init sl_need_one_sort sl_integer_of sl_is_letters sl_is_of sl_Book_init sl_Book_len sl_Book_contains sl_Book_eq sl_Book_weight sl_Book_worth sl_renamings sl_read_book sl_read_by sl_is_mark sl_is_kind sl_is_number sl_last_agrees sl_l_pot sl_l_take sl_l_of sl_l_some sl_l_cells sl_l_heard sl_l_book_names sl_l_book_weights sl_l_book_table sl_l_book_twinned sl_l_book_of sl_l_book_drawn sl_l_book_text sl_l_book_picked sl_l_book_renamed sl_l_book_split sl_l_book_changed sl_l_book_other sl_l_book_called sl_l_orders sl_l_is_renaming sl_l_renamings sl_l_other_sort sl_l_is_refused sl_l_right sl_law : Array (Option Value)}
    {oc_is_integer kV_is_integer dc_is_integer pm_is_integer ct_is_integer cd_is_integer oc_is_by kV_is_by dc_is_by pm_is_by ct_is_by cd_is_by oc_GateError_init kV_GateError_init dc_GateError_init pm_GateError_init ct_GateError_init cd_GateError_init oc_need_one_sort kV_need_one_sort dc_need_one_sort pm_need_one_sort ct_need_one_sort cd_need_one_sort oc_integer_of kV_integer_of dc_integer_of pm_integer_of ct_integer_of cd_integer_of oc_is_letters kV_is_letters dc_is_letters pm_is_letters ct_is_letters cd_is_letters oc_is_of kV_is_of dc_is_of pm_is_of ct_is_of cd_is_of oc_Book_init kV_Book_init dc_Book_init pm_Book_init ct_Book_init cd_Book_init oc_Book_len kV_Book_len dc_Book_len pm_Book_len ct_Book_len cd_Book_len oc_Book_contains kV_Book_contains dc_Book_contains pm_Book_contains ct_Book_contains cd_Book_contains oc_Book_eq kV_Book_eq dc_Book_eq pm_Book_eq ct_Book_eq cd_Book_eq oc_Book_weight kV_Book_weight dc_Book_weight pm_Book_weight ct_Book_weight cd_Book_weight oc_Book_worth kV_Book_worth dc_Book_worth pm_Book_worth ct_Book_worth cd_Book_worth oc_renamings kV_renamings dc_renamings pm_renamings ct_renamings cd_renamings oc_read_book kV_read_book dc_read_book pm_read_book ct_read_book cd_read_book oc_read_by kV_read_by dc_read_by pm_read_by ct_read_by cd_read_by oc_is_mark kV_is_mark dc_is_mark pm_is_mark ct_is_mark cd_is_mark oc_is_kind kV_is_kind dc_is_kind pm_is_kind ct_is_kind cd_is_kind oc_is_number kV_is_number dc_is_number pm_is_number ct_is_number cd_is_number oc_last_agrees kV_last_agrees dc_last_agrees pm_last_agrees ct_last_agrees cd_last_agrees oc_l_pot kV_l_pot dc_l_pot pm_l_pot ct_l_pot cd_l_pot oc_l_take kV_l_take dc_l_take pm_l_take ct_l_take cd_l_take oc_l_of kV_l_of dc_l_of pm_l_of ct_l_of cd_l_of oc_l_some kV_l_some dc_l_some pm_l_some ct_l_some cd_l_some oc_l_cells kV_l_cells dc_l_cells pm_l_cells ct_l_cells cd_l_cells oc_l_heard kV_l_heard dc_l_heard pm_l_heard ct_l_heard cd_l_heard oc_l_book_names kV_l_book_names dc_l_book_names pm_l_book_names ct_l_book_names cd_l_book_names oc_l_book_weights kV_l_book_weights dc_l_book_weights pm_l_book_weights ct_l_book_weights cd_l_book_weights oc_l_book_table kV_l_book_table dc_l_book_table pm_l_book_table ct_l_book_table cd_l_book_table oc_l_book_twinned kV_l_book_twinned dc_l_book_twinned pm_l_book_twinned ct_l_book_twinned cd_l_book_twinned oc_l_book_of kV_l_book_of dc_l_book_of pm_l_book_of ct_l_book_of cd_l_book_of oc_l_book_drawn kV_l_book_drawn dc_l_book_drawn pm_l_book_drawn ct_l_book_drawn cd_l_book_drawn oc_l_book_text kV_l_book_text dc_l_book_text pm_l_book_text ct_l_book_text cd_l_book_text oc_l_book_picked kV_l_book_picked dc_l_book_picked pm_l_book_picked ct_l_book_picked cd_l_book_picked oc_l_book_renamed kV_l_book_renamed dc_l_book_renamed pm_l_book_renamed ct_l_book_renamed cd_l_book_renamed oc_l_book_split kV_l_book_split dc_l_book_split pm_l_book_split ct_l_book_split cd_l_book_split oc_l_book_changed kV_l_book_changed dc_l_book_changed pm_l_book_changed ct_l_book_changed cd_l_book_changed oc_l_book_other kV_l_book_other dc_l_book_other pm_l_book_other ct_l_book_other cd_l_book_other oc_l_book_called kV_l_book_called dc_l_book_called pm_l_book_called ct_l_book_called cd_l_book_called oc_l_orders kV_l_orders dc_l_orders pm_l_orders ct_l_orders cd_l_orders oc_l_is_renaming kV_l_is_renaming dc_l_is_renaming pm_l_is_renaming ct_l_is_renaming cd_l_is_renaming oc_l_renamings kV_l_renamings dc_l_renamings pm_l_renamings ct_l_renamings cd_l_renamings oc_l_other_sort kV_l_other_sort dc_l_other_sort pm_l_other_sort ct_l_other_sort cd_l_other_sort oc_l_is_refused kV_l_is_refused dc_l_is_refused pm_l_is_refused ct_l_is_refused oc_l_right kV_l_right dc_l_right pm_l_right ct_l_right cd_l_right oc_law kV_law dc_law pm_law ct_law cd_law : Value}
    {t_LETTERS t_FIGURES t_MOST_MARKS t_MOST_KINDS : Tok} {uP : Array Value} {nP : Nat}
    {nmBadBook qnBadBook : Str} {bsBadBook : List Value} {snBadBook : List Str} {subBadBook : List Value} {abBadBook : Bool} {colBadBook : Option Bool} {x0BadBook x1BadBook x2BadBook x3BadBook x5BadBook : Option Value}
    {nmNoMark qnNoMark : Str} {bsNoMark : List Value} {snNoMark : List Str} {subNoMark : List Value} {abNoMark : Bool} {colNoMark : Option Bool} {x0NoMark x1NoMark x2NoMark x3NoMark x5NoMark : Option Value}
    {nmNoKind qnNoKind : Str} {bsNoKind : List Value} {snNoKind : List Str} {subNoKind : List Value} {abNoKind : Bool} {colNoKind : Option Bool} {x0NoKind x1NoKind x2NoKind x3NoKind x5NoKind : Option Value}
    {nmOtherKinds qnOtherKinds : Str} {bsOtherKinds : List Value} {snOtherKinds : List Str} {subOtherKinds : List Value} {abOtherKinds : Bool} {colOtherKinds : Option Bool} {x0OtherKinds x1OtherKinds x2OtherKinds x3OtherKinds x5OtherKinds : Option Value}
    (a_BadBook : PySem.W.nsIn K mainGlobals "BadBook" = some (some (.ref c_BadBook)))
    (a_NoMark : PySem.W.nsIn K mainGlobals "NoMark" = some (some (.ref c_NoMark)))
    (a_NoKind : PySem.W.nsIn K mainGlobals "NoKind" = some (some (.ref c_NoKind)))
    (a_OtherKinds : PySem.W.nsIn K mainGlobals "OtherKinds" = some (some (.ref c_OtherKinds)))
    (a_GateError : PySem.W.nsIn K mainGlobals "GateError" = some (some (.ref c_GateError)))
    (a_Book : PySem.W.nsIn K mainGlobals "Book" = some (some (.ref c_Book)))
    (a_is_integer : PySem.W.nsIn K mainGlobals "is_integer" = some (some (.ref f_is_integer)))
    (l_is_integer : K.lookup f_is_integer = some ⟨oc_is_integer, od_is_integer, .func (PySem.W.fnOf "is_integer" "is_integer" (defArgs s_is_integer) (defBody s_is_integer) (defScope s_is_integer) .none kV_is_integer dc_is_integer pm_is_integer an_is_integer cd_is_integer ct_is_integer), sl_is_integer⟩)
    (c_is_integer : PySem.W.codeIn K cd_is_integer "is_integer" = true)
    (k_is_integer : PySem.W.keepIn K (.ref f_is_integer) = true)
    (a_is_by : PySem.W.nsIn K mainGlobals "is_by" = some (some (.ref f_is_by)))
    (l_is_by : K.lookup f_is_by = some ⟨oc_is_by, od_is_by, .func (PySem.W.fnOf "is_by" "is_by" (defArgs s_is_by) (defBody s_is_by) (defScope s_is_by) .none kV_is_by dc_is_by pm_is_by an_is_by cd_is_by ct_is_by), sl_is_by⟩)
    (c_is_by : PySem.W.codeIn K cd_is_by "is_by" = true)
    (k_is_by : PySem.W.keepIn K (.ref f_is_by) = true)
    (a_GateError_init : PySem.W.findIn K (.ref c_GateError) "__init__" = some (some (.ref f_GateError_init)))
    (l_GateError_init : K.lookup f_GateError_init = some ⟨oc_GateError_init, od_GateError_init, .func (PySem.W.fnOf "__init__" "GateError.__init__" (defArgs s_GateError_init) (defBody s_GateError_init) (defScope s_GateError_init) .none kV_GateError_init dc_GateError_init pm_GateError_init an_GateError_init cd_GateError_init ct_GateError_init), sl_GateError_init⟩)
    (c_GateError_init : PySem.W.codeIn K cd_GateError_init "GateError.__init__" = true)
    (k_GateError_init : PySem.W.keepIn K (.ref f_GateError_init) = true)
    (a_need_one_sort : PySem.W.nsIn K mainGlobals "need_one_sort" = some (some (.ref f_need_one_sort)))
    (l_need_one_sort : K.lookup f_need_one_sort = some ⟨oc_need_one_sort, od_need_one_sort, .func (PySem.W.fnOf "need_one_sort" "need_one_sort" (defArgs s_need_one_sort) (defBody s_need_one_sort) (defScope s_need_one_sort) .none kV_need_one_sort dc_need_one_sort pm_need_one_sort an_need_one_sort cd_need_one_sort ct_need_one_sort), sl_need_one_sort⟩)
    (c_need_one_sort : PySem.W.codeIn K cd_need_one_sort "need_one_sort" = true)
    (k_need_one_sort : PySem.W.keepIn K (.ref f_need_one_sort) = true)
    (a_integer_of : PySem.W.nsIn K mainGlobals "integer_of" = some (some (.ref f_integer_of)))
    (l_integer_of : K.lookup f_integer_of = some ⟨oc_integer_of, od_integer_of, .func (PySem.W.fnOf "integer_of" "integer_of" (defArgs s_integer_of) (defBody s_integer_of) (defScope s_integer_of) .none kV_integer_of dc_integer_of pm_integer_of an_integer_of cd_integer_of ct_integer_of), sl_integer_of⟩)
    (c_integer_of : PySem.W.codeIn K cd_integer_of "integer_of" = true)
    (k_integer_of : PySem.W.keepIn K (.ref f_integer_of) = true)
    (a_is_letters : PySem.W.nsIn K mainGlobals "is_letters" = some (some (.ref f_is_letters)))
    (l_is_letters : K.lookup f_is_letters = some ⟨oc_is_letters, od_is_letters, .func (PySem.W.fnOf "is_letters" "is_letters" (defArgs s_is_letters) (defBody s_is_letters) (defScope s_is_letters) .none kV_is_letters dc_is_letters pm_is_letters an_is_letters cd_is_letters ct_is_letters), sl_is_letters⟩)
    (c_is_letters : PySem.W.codeIn K cd_is_letters "is_letters" = true)
    (k_is_letters : PySem.W.keepIn K (.ref f_is_letters) = true)
    (a_is_of : PySem.W.nsIn K mainGlobals "_is_of" = some (some (.ref f_is_of)))
    (l_is_of : K.lookup f_is_of = some ⟨oc_is_of, od_is_of, .func (PySem.W.fnOf "_is_of" "_is_of" (defArgs s_is_of) (defBody s_is_of) (defScope s_is_of) .none kV_is_of dc_is_of pm_is_of an_is_of cd_is_of ct_is_of), sl_is_of⟩)
    (c_is_of : PySem.W.codeIn K cd_is_of "_is_of" = true)
    (k_is_of : PySem.W.keepIn K (.ref f_is_of) = true)
    (a_Book_init : PySem.W.findIn K (.ref c_Book) "__init__" = some (some (.ref f_Book_init)))
    (l_Book_init : K.lookup f_Book_init = some ⟨oc_Book_init, od_Book_init, .func (PySem.W.fnOf "__init__" "Book.__init__" (defArgs s_Book_init) (defBody s_Book_init) (defScope s_Book_init) .none kV_Book_init dc_Book_init pm_Book_init an_Book_init cd_Book_init ct_Book_init), sl_Book_init⟩)
    (c_Book_init : PySem.W.codeIn K cd_Book_init "Book.__init__" = true)
    (k_Book_init : PySem.W.keepIn K (.ref f_Book_init) = true)
    (a_Book_len : PySem.W.findIn K (.ref c_Book) "__len__" = some (some (.ref f_Book_len)))
    (l_Book_len : K.lookup f_Book_len = some ⟨oc_Book_len, od_Book_len, .func (PySem.W.fnOf "__len__" "Book.__len__" (defArgs s_Book_len) (defBody s_Book_len) (defScope s_Book_len) .none kV_Book_len dc_Book_len pm_Book_len an_Book_len cd_Book_len ct_Book_len), sl_Book_len⟩)
    (c_Book_len : PySem.W.codeIn K cd_Book_len "Book.__len__" = true)
    (k_Book_len : PySem.W.keepIn K (.ref f_Book_len) = true)
    (a_Book_contains : PySem.W.findIn K (.ref c_Book) "__contains__" = some (some (.ref f_Book_contains)))
    (l_Book_contains : K.lookup f_Book_contains = some ⟨oc_Book_contains, od_Book_contains, .func (PySem.W.fnOf "__contains__" "Book.__contains__" (defArgs s_Book_contains) (defBody s_Book_contains) (defScope s_Book_contains) .none kV_Book_contains dc_Book_contains pm_Book_contains an_Book_contains cd_Book_contains ct_Book_contains), sl_Book_contains⟩)
    (c_Book_contains : PySem.W.codeIn K cd_Book_contains "Book.__contains__" = true)
    (k_Book_contains : PySem.W.keepIn K (.ref f_Book_contains) = true)
    (a_Book_eq : PySem.W.findIn K (.ref c_Book) "__eq__" = some (some (.ref f_Book_eq)))
    (l_Book_eq : K.lookup f_Book_eq = some ⟨oc_Book_eq, od_Book_eq, .func (PySem.W.fnOf "__eq__" "Book.__eq__" (defArgs s_Book_eq) (defBody s_Book_eq) (defScope s_Book_eq) .none kV_Book_eq dc_Book_eq pm_Book_eq an_Book_eq cd_Book_eq ct_Book_eq), sl_Book_eq⟩)
    (c_Book_eq : PySem.W.codeIn K cd_Book_eq "Book.__eq__" = true)
    (k_Book_eq : PySem.W.keepIn K (.ref f_Book_eq) = true)
    (a_Book_weight : PySem.W.findIn K (.ref c_Book) "weight" = some (some (.ref f_Book_weight)))
    (l_Book_weight : K.lookup f_Book_weight = some ⟨oc_Book_weight, od_Book_weight, .func (PySem.W.fnOf "weight" "Book.weight" (defArgs s_Book_weight) (defBody s_Book_weight) (defScope s_Book_weight) .none kV_Book_weight dc_Book_weight pm_Book_weight an_Book_weight cd_Book_weight ct_Book_weight), sl_Book_weight⟩)
    (c_Book_weight : PySem.W.codeIn K cd_Book_weight "Book.weight" = true)
    (k_Book_weight : PySem.W.keepIn K (.ref f_Book_weight) = true)
    (a_Book_worth : PySem.W.findIn K (.ref c_Book) "worth" = some (some (.ref f_Book_worth)))
    (l_Book_worth : K.lookup f_Book_worth = some ⟨oc_Book_worth, od_Book_worth, .func (PySem.W.fnOf "worth" "Book.worth" (defArgs s_Book_worth) (defBody s_Book_worth) (defScope s_Book_worth) .none kV_Book_worth dc_Book_worth pm_Book_worth an_Book_worth cd_Book_worth ct_Book_worth), sl_Book_worth⟩)
    (c_Book_worth : PySem.W.codeIn K cd_Book_worth "Book.worth" = true)
    (k_Book_worth : PySem.W.keepIn K (.ref f_Book_worth) = true)
    (a_renamings : PySem.W.nsIn K mainGlobals "renamings" = some (some (.ref f_renamings)))
    (l_renamings : K.lookup f_renamings = some ⟨oc_renamings, od_renamings, .func (PySem.W.fnOf "renamings" "renamings" (defArgs s_renamings) (defBody s_renamings) (defScope s_renamings) .none kV_renamings dc_renamings pm_renamings an_renamings cd_renamings ct_renamings), sl_renamings⟩)
    (c_renamings : PySem.W.codeIn K cd_renamings "renamings" = true)
    (k_renamings : PySem.W.keepIn K (.ref f_renamings) = true)
    (a_read_book : PySem.W.nsIn K mainGlobals "_read_book" = some (some (.ref f_read_book)))
    (l_read_book : K.lookup f_read_book = some ⟨oc_read_book, od_read_book, .func (PySem.W.fnOf "_read_book" "_read_book" (defArgs s_read_book) (defBody s_read_book) (defScope s_read_book) .none kV_read_book dc_read_book pm_read_book an_read_book cd_read_book ct_read_book), sl_read_book⟩)
    (c_read_book : PySem.W.codeIn K cd_read_book "_read_book" = true)
    (k_read_book : PySem.W.keepIn K (.ref f_read_book) = true)
    (a_read_by : PySem.W.nsIn K mainGlobals "_read_by" = some (some (.ref f_read_by)))
    (l_read_by : K.lookup f_read_by = some ⟨oc_read_by, od_read_by, .func (PySem.W.fnOf "_read_by" "_read_by" (defArgs s_read_by) (defBody s_read_by) (defScope s_read_by) .none kV_read_by dc_read_by pm_read_by an_read_by cd_read_by ct_read_by), sl_read_by⟩)
    (c_read_by : PySem.W.codeIn K cd_read_by "_read_by" = true)
    (k_read_by : PySem.W.keepIn K (.ref f_read_by) = true)
    (a_is_mark : PySem.W.nsIn K mainGlobals "_is_mark" = some (some (.ref f_is_mark)))
    (l_is_mark : K.lookup f_is_mark = some ⟨oc_is_mark, od_is_mark, .func (PySem.W.fnOf "_is_mark" "_is_mark" (defArgs s_is_mark) (defBody s_is_mark) (defScope s_is_mark) .none kV_is_mark dc_is_mark pm_is_mark an_is_mark cd_is_mark ct_is_mark), sl_is_mark⟩)
    (c_is_mark : PySem.W.codeIn K cd_is_mark "_is_mark" = true)
    (k_is_mark : PySem.W.keepIn K (.ref f_is_mark) = true)
    (a_is_kind : PySem.W.nsIn K mainGlobals "_is_kind" = some (some (.ref f_is_kind)))
    (l_is_kind : K.lookup f_is_kind = some ⟨oc_is_kind, od_is_kind, .func (PySem.W.fnOf "_is_kind" "_is_kind" (defArgs s_is_kind) (defBody s_is_kind) (defScope s_is_kind) .none kV_is_kind dc_is_kind pm_is_kind an_is_kind cd_is_kind ct_is_kind), sl_is_kind⟩)
    (c_is_kind : PySem.W.codeIn K cd_is_kind "_is_kind" = true)
    (k_is_kind : PySem.W.keepIn K (.ref f_is_kind) = true)
    (a_is_number : PySem.W.nsIn K mainGlobals "_is_number" = some (some (.ref f_is_number)))
    (l_is_number : K.lookup f_is_number = some ⟨oc_is_number, od_is_number, .func (PySem.W.fnOf "_is_number" "_is_number" (defArgs s_is_number) (defBody s_is_number) (defScope s_is_number) .none kV_is_number dc_is_number pm_is_number an_is_number cd_is_number ct_is_number), sl_is_number⟩)
    (c_is_number : PySem.W.codeIn K cd_is_number "_is_number" = true)
    (k_is_number : PySem.W.keepIn K (.ref f_is_number) = true)
    (a_last_agrees : PySem.W.nsIn K mainGlobals "_last_agrees" = some (some (.ref f_last_agrees)))
    (l_last_agrees : K.lookup f_last_agrees = some ⟨oc_last_agrees, od_last_agrees, .func (PySem.W.fnOf "_last_agrees" "_last_agrees" (defArgs s_last_agrees) (defBody s_last_agrees) (defScope s_last_agrees) .none kV_last_agrees dc_last_agrees pm_last_agrees an_last_agrees cd_last_agrees ct_last_agrees), sl_last_agrees⟩)
    (c_last_agrees : PySem.W.codeIn K cd_last_agrees "_last_agrees" = true)
    (k_last_agrees : PySem.W.keepIn K (.ref f_last_agrees) = true)
    (a_l_pot : PySem.W.nsIn K mainGlobals "_law_pot" = some (some (.ref f_l_pot)))
    (l_l_pot : K.lookup f_l_pot = some ⟨oc_l_pot, od_l_pot, .func (PySem.W.fnOf "_law_pot" "_law_pot" (defArgs s_l_pot) (defBody s_l_pot) (defScope s_l_pot) .none kV_l_pot dc_l_pot pm_l_pot an_l_pot cd_l_pot ct_l_pot), sl_l_pot⟩)
    (c_l_pot : PySem.W.codeIn K cd_l_pot "_law_pot" = true)
    (k_l_pot : PySem.W.keepIn K (.ref f_l_pot) = true)
    (a_l_take : PySem.W.nsIn K mainGlobals "_law_take" = some (some (.ref f_l_take)))
    (l_l_take : K.lookup f_l_take = some ⟨oc_l_take, od_l_take, .func (PySem.W.fnOf "_law_take" "_law_take" (defArgs s_l_take) (defBody s_l_take) (defScope s_l_take) .none kV_l_take dc_l_take pm_l_take an_l_take cd_l_take ct_l_take), sl_l_take⟩)
    (c_l_take : PySem.W.codeIn K cd_l_take "_law_take" = true)
    (k_l_take : PySem.W.keepIn K (.ref f_l_take) = true)
    (a_l_of : PySem.W.nsIn K mainGlobals "_law_of" = some (some (.ref f_l_of)))
    (l_l_of : K.lookup f_l_of = some ⟨oc_l_of, od_l_of, .func (PySem.W.fnOf "_law_of" "_law_of" (defArgs s_l_of) (defBody s_l_of) (defScope s_l_of) .none kV_l_of dc_l_of pm_l_of an_l_of cd_l_of ct_l_of), sl_l_of⟩)
    (c_l_of : PySem.W.codeIn K cd_l_of "_law_of" = true)
    (k_l_of : PySem.W.keepIn K (.ref f_l_of) = true)
    (a_l_some : PySem.W.nsIn K mainGlobals "_law_some" = some (some (.ref f_l_some)))
    (l_l_some : K.lookup f_l_some = some ⟨oc_l_some, od_l_some, .func (PySem.W.fnOf "_law_some" "_law_some" (defArgs s_l_some) (defBody s_l_some) (defScope s_l_some) .none kV_l_some dc_l_some pm_l_some an_l_some cd_l_some ct_l_some), sl_l_some⟩)
    (c_l_some : PySem.W.codeIn K cd_l_some "_law_some" = true)
    (k_l_some : PySem.W.keepIn K (.ref f_l_some) = true)
    (a_l_cells : PySem.W.nsIn K mainGlobals "_law_cells" = some (some (.ref f_l_cells)))
    (l_l_cells : K.lookup f_l_cells = some ⟨oc_l_cells, od_l_cells, .func (PySem.W.fnOf "_law_cells" "_law_cells" (defArgs s_l_cells) (defBody s_l_cells) (defScope s_l_cells) .none kV_l_cells dc_l_cells pm_l_cells an_l_cells cd_l_cells ct_l_cells), sl_l_cells⟩)
    (c_l_cells : PySem.W.codeIn K cd_l_cells "_law_cells" = true)
    (k_l_cells : PySem.W.keepIn K (.ref f_l_cells) = true)
    (a_l_heard : PySem.W.nsIn K mainGlobals "_law_heard" = some (some (.ref f_l_heard)))
    (l_l_heard : K.lookup f_l_heard = some ⟨oc_l_heard, od_l_heard, .func (PySem.W.fnOf "_law_heard" "_law_heard" (defArgs s_l_heard) (defBody s_l_heard) (defScope s_l_heard) .none kV_l_heard dc_l_heard pm_l_heard an_l_heard cd_l_heard ct_l_heard), sl_l_heard⟩)
    (c_l_heard : PySem.W.codeIn K cd_l_heard "_law_heard" = true)
    (k_l_heard : PySem.W.keepIn K (.ref f_l_heard) = true)
    (a_l_book_names : PySem.W.nsIn K mainGlobals "_law_book_names" = some (some (.ref f_l_book_names)))
    (l_l_book_names : K.lookup f_l_book_names = some ⟨oc_l_book_names, od_l_book_names, .func (PySem.W.fnOf "_law_book_names" "_law_book_names" (defArgs s_l_book_names) (defBody s_l_book_names) (defScope s_l_book_names) .none kV_l_book_names dc_l_book_names pm_l_book_names an_l_book_names cd_l_book_names ct_l_book_names), sl_l_book_names⟩)
    (c_l_book_names : PySem.W.codeIn K cd_l_book_names "_law_book_names" = true)
    (k_l_book_names : PySem.W.keepIn K (.ref f_l_book_names) = true)
    (a_l_book_weights : PySem.W.nsIn K mainGlobals "_law_book_weights" = some (some (.ref f_l_book_weights)))
    (l_l_book_weights : K.lookup f_l_book_weights = some ⟨oc_l_book_weights, od_l_book_weights, .func (PySem.W.fnOf "_law_book_weights" "_law_book_weights" (defArgs s_l_book_weights) (defBody s_l_book_weights) (defScope s_l_book_weights) .none kV_l_book_weights dc_l_book_weights pm_l_book_weights an_l_book_weights cd_l_book_weights ct_l_book_weights), sl_l_book_weights⟩)
    (c_l_book_weights : PySem.W.codeIn K cd_l_book_weights "_law_book_weights" = true)
    (k_l_book_weights : PySem.W.keepIn K (.ref f_l_book_weights) = true)
    (a_l_book_table : PySem.W.nsIn K mainGlobals "_law_book_table" = some (some (.ref f_l_book_table)))
    (l_l_book_table : K.lookup f_l_book_table = some ⟨oc_l_book_table, od_l_book_table, .func (PySem.W.fnOf "_law_book_table" "_law_book_table" (defArgs s_l_book_table) (defBody s_l_book_table) (defScope s_l_book_table) .none kV_l_book_table dc_l_book_table pm_l_book_table an_l_book_table cd_l_book_table ct_l_book_table), sl_l_book_table⟩)
    (c_l_book_table : PySem.W.codeIn K cd_l_book_table "_law_book_table" = true)
    (k_l_book_table : PySem.W.keepIn K (.ref f_l_book_table) = true)
    (a_l_book_twinned : PySem.W.nsIn K mainGlobals "_law_book_twinned" = some (some (.ref f_l_book_twinned)))
    (l_l_book_twinned : K.lookup f_l_book_twinned = some ⟨oc_l_book_twinned, od_l_book_twinned, .func (PySem.W.fnOf "_law_book_twinned" "_law_book_twinned" (defArgs s_l_book_twinned) (defBody s_l_book_twinned) (defScope s_l_book_twinned) .none kV_l_book_twinned dc_l_book_twinned pm_l_book_twinned an_l_book_twinned cd_l_book_twinned ct_l_book_twinned), sl_l_book_twinned⟩)
    (c_l_book_twinned : PySem.W.codeIn K cd_l_book_twinned "_law_book_twinned" = true)
    (k_l_book_twinned : PySem.W.keepIn K (.ref f_l_book_twinned) = true)
    (a_l_book_of : PySem.W.nsIn K mainGlobals "_law_book_of" = some (some (.ref f_l_book_of)))
    (l_l_book_of : K.lookup f_l_book_of = some ⟨oc_l_book_of, od_l_book_of, .func (PySem.W.fnOf "_law_book_of" "_law_book_of" (defArgs s_l_book_of) (defBody s_l_book_of) (defScope s_l_book_of) .none kV_l_book_of dc_l_book_of pm_l_book_of an_l_book_of cd_l_book_of ct_l_book_of), sl_l_book_of⟩)
    (c_l_book_of : PySem.W.codeIn K cd_l_book_of "_law_book_of" = true)
    (k_l_book_of : PySem.W.keepIn K (.ref f_l_book_of) = true)
    (a_l_book_drawn : PySem.W.nsIn K mainGlobals "_law_book_drawn" = some (some (.ref f_l_book_drawn)))
    (l_l_book_drawn : K.lookup f_l_book_drawn = some ⟨oc_l_book_drawn, od_l_book_drawn, .func (PySem.W.fnOf "_law_book_drawn" "_law_book_drawn" (defArgs s_l_book_drawn) (defBody s_l_book_drawn) (defScope s_l_book_drawn) .none kV_l_book_drawn dc_l_book_drawn pm_l_book_drawn an_l_book_drawn cd_l_book_drawn ct_l_book_drawn), sl_l_book_drawn⟩)
    (c_l_book_drawn : PySem.W.codeIn K cd_l_book_drawn "_law_book_drawn" = true)
    (k_l_book_drawn : PySem.W.keepIn K (.ref f_l_book_drawn) = true)
    (a_l_book_text : PySem.W.nsIn K mainGlobals "_law_book_text" = some (some (.ref f_l_book_text)))
    (l_l_book_text : K.lookup f_l_book_text = some ⟨oc_l_book_text, od_l_book_text, .func (PySem.W.fnOf "_law_book_text" "_law_book_text" (defArgs s_l_book_text) (defBody s_l_book_text) (defScope s_l_book_text) .none kV_l_book_text dc_l_book_text pm_l_book_text an_l_book_text cd_l_book_text ct_l_book_text), sl_l_book_text⟩)
    (c_l_book_text : PySem.W.codeIn K cd_l_book_text "_law_book_text" = true)
    (k_l_book_text : PySem.W.keepIn K (.ref f_l_book_text) = true)
    (a_l_book_picked : PySem.W.nsIn K mainGlobals "_law_book_picked" = some (some (.ref f_l_book_picked)))
    (l_l_book_picked : K.lookup f_l_book_picked = some ⟨oc_l_book_picked, od_l_book_picked, .func (PySem.W.fnOf "_law_book_picked" "_law_book_picked" (defArgs s_l_book_picked) (defBody s_l_book_picked) (defScope s_l_book_picked) .none kV_l_book_picked dc_l_book_picked pm_l_book_picked an_l_book_picked cd_l_book_picked ct_l_book_picked), sl_l_book_picked⟩)
    (c_l_book_picked : PySem.W.codeIn K cd_l_book_picked "_law_book_picked" = true)
    (k_l_book_picked : PySem.W.keepIn K (.ref f_l_book_picked) = true)
    (a_l_book_renamed : PySem.W.nsIn K mainGlobals "_law_book_renamed" = some (some (.ref f_l_book_renamed)))
    (l_l_book_renamed : K.lookup f_l_book_renamed = some ⟨oc_l_book_renamed, od_l_book_renamed, .func (PySem.W.fnOf "_law_book_renamed" "_law_book_renamed" (defArgs s_l_book_renamed) (defBody s_l_book_renamed) (defScope s_l_book_renamed) .none kV_l_book_renamed dc_l_book_renamed pm_l_book_renamed an_l_book_renamed cd_l_book_renamed ct_l_book_renamed), sl_l_book_renamed⟩)
    (c_l_book_renamed : PySem.W.codeIn K cd_l_book_renamed "_law_book_renamed" = true)
    (k_l_book_renamed : PySem.W.keepIn K (.ref f_l_book_renamed) = true)
    (a_l_book_split : PySem.W.nsIn K mainGlobals "_law_book_split" = some (some (.ref f_l_book_split)))
    (l_l_book_split : K.lookup f_l_book_split = some ⟨oc_l_book_split, od_l_book_split, .func (PySem.W.fnOf "_law_book_split" "_law_book_split" (defArgs s_l_book_split) (defBody s_l_book_split) (defScope s_l_book_split) .none kV_l_book_split dc_l_book_split pm_l_book_split an_l_book_split cd_l_book_split ct_l_book_split), sl_l_book_split⟩)
    (c_l_book_split : PySem.W.codeIn K cd_l_book_split "_law_book_split" = true)
    (k_l_book_split : PySem.W.keepIn K (.ref f_l_book_split) = true)
    (a_l_book_changed : PySem.W.nsIn K mainGlobals "_law_book_changed" = some (some (.ref f_l_book_changed)))
    (l_l_book_changed : K.lookup f_l_book_changed = some ⟨oc_l_book_changed, od_l_book_changed, .func (PySem.W.fnOf "_law_book_changed" "_law_book_changed" (defArgs s_l_book_changed) (defBody s_l_book_changed) (defScope s_l_book_changed) .none kV_l_book_changed dc_l_book_changed pm_l_book_changed an_l_book_changed cd_l_book_changed ct_l_book_changed), sl_l_book_changed⟩)
    (c_l_book_changed : PySem.W.codeIn K cd_l_book_changed "_law_book_changed" = true)
    (k_l_book_changed : PySem.W.keepIn K (.ref f_l_book_changed) = true)
    (a_l_book_other : PySem.W.nsIn K mainGlobals "_law_book_other" = some (some (.ref f_l_book_other)))
    (l_l_book_other : K.lookup f_l_book_other = some ⟨oc_l_book_other, od_l_book_other, .func (PySem.W.fnOf "_law_book_other" "_law_book_other" (defArgs s_l_book_other) (defBody s_l_book_other) (defScope s_l_book_other) .none kV_l_book_other dc_l_book_other pm_l_book_other an_l_book_other cd_l_book_other ct_l_book_other), sl_l_book_other⟩)
    (c_l_book_other : PySem.W.codeIn K cd_l_book_other "_law_book_other" = true)
    (k_l_book_other : PySem.W.keepIn K (.ref f_l_book_other) = true)
    (a_l_book_called : PySem.W.nsIn K mainGlobals "_law_book_called" = some (some (.ref f_l_book_called)))
    (l_l_book_called : K.lookup f_l_book_called = some ⟨oc_l_book_called, od_l_book_called, .func (PySem.W.fnOf "_law_book_called" "_law_book_called" (defArgs s_l_book_called) (defBody s_l_book_called) (defScope s_l_book_called) .none kV_l_book_called dc_l_book_called pm_l_book_called an_l_book_called cd_l_book_called ct_l_book_called), sl_l_book_called⟩)
    (c_l_book_called : PySem.W.codeIn K cd_l_book_called "_law_book_called" = true)
    (k_l_book_called : PySem.W.keepIn K (.ref f_l_book_called) = true)
    (a_l_orders : PySem.W.nsIn K mainGlobals "_law_orders" = some (some (.ref f_l_orders)))
    (l_l_orders : K.lookup f_l_orders = some ⟨oc_l_orders, od_l_orders, .func (PySem.W.fnOf "_law_orders" "_law_orders" (defArgs s_l_orders) (defBody s_l_orders) (defScope s_l_orders) .none kV_l_orders dc_l_orders pm_l_orders an_l_orders cd_l_orders ct_l_orders), sl_l_orders⟩)
    (c_l_orders : PySem.W.codeIn K cd_l_orders "_law_orders" = true)
    (k_l_orders : PySem.W.keepIn K (.ref f_l_orders) = true)
    (a_l_is_renaming : PySem.W.nsIn K mainGlobals "_law_is_renaming" = some (some (.ref f_l_is_renaming)))
    (l_l_is_renaming : K.lookup f_l_is_renaming = some ⟨oc_l_is_renaming, od_l_is_renaming, .func (PySem.W.fnOf "_law_is_renaming" "_law_is_renaming" (defArgs s_l_is_renaming) (defBody s_l_is_renaming) (defScope s_l_is_renaming) .none kV_l_is_renaming dc_l_is_renaming pm_l_is_renaming an_l_is_renaming cd_l_is_renaming ct_l_is_renaming), sl_l_is_renaming⟩)
    (c_l_is_renaming : PySem.W.codeIn K cd_l_is_renaming "_law_is_renaming" = true)
    (k_l_is_renaming : PySem.W.keepIn K (.ref f_l_is_renaming) = true)
    (a_l_renamings : PySem.W.nsIn K mainGlobals "_law_renamings" = some (some (.ref f_l_renamings)))
    (l_l_renamings : K.lookup f_l_renamings = some ⟨oc_l_renamings, od_l_renamings, .func (PySem.W.fnOf "_law_renamings" "_law_renamings" (defArgs s_l_renamings) (defBody s_l_renamings) (defScope s_l_renamings) .none kV_l_renamings dc_l_renamings pm_l_renamings an_l_renamings cd_l_renamings ct_l_renamings), sl_l_renamings⟩)
    (c_l_renamings : PySem.W.codeIn K cd_l_renamings "_law_renamings" = true)
    (k_l_renamings : PySem.W.keepIn K (.ref f_l_renamings) = true)
    (a_l_other_sort : PySem.W.nsIn K mainGlobals "_law_other_sort" = some (some (.ref f_l_other_sort)))
    (l_l_other_sort : K.lookup f_l_other_sort = some ⟨oc_l_other_sort, od_l_other_sort, .func (PySem.W.fnOf "_law_other_sort" "_law_other_sort" (defArgs s_l_other_sort) (defBody s_l_other_sort) (defScope s_l_other_sort) .none kV_l_other_sort dc_l_other_sort pm_l_other_sort an_l_other_sort cd_l_other_sort ct_l_other_sort), sl_l_other_sort⟩)
    (c_l_other_sort : PySem.W.codeIn K cd_l_other_sort "_law_other_sort" = true)
    (k_l_other_sort : PySem.W.keepIn K (.ref f_l_other_sort) = true)
    (a_l_is_refused : PySem.W.nsIn K mainGlobals "_law_is_refused" = some (some (.ref f_l_is_refused)))
    (l_l_is_refused : K.lookup f_l_is_refused = some ⟨oc_l_is_refused, od_l_is_refused, .func (PySem.W.fnOf "_law_is_refused" "_law_is_refused" (defArgs s_l_is_refused) (defBody s_l_is_refused) (defScope s_l_is_refused) .none kV_l_is_refused dc_l_is_refused pm_l_is_refused an_l_is_refused (.ref cJ) ct_l_is_refused), sl_l_is_refused⟩)
    (c_l_is_refused : PySem.W.codeIn K (.ref cJ) "_law_is_refused" = true)
    (k_l_is_refused : PySem.W.keepIn K (.ref f_l_is_refused) = true)
    (a_l_right : PySem.W.nsIn K mainGlobals "_law_right" = some (some (.ref f_l_right)))
    (l_l_right : K.lookup f_l_right = some ⟨oc_l_right, od_l_right, .func (PySem.W.fnOf "_law_right" "_law_right" (defArgs s_l_right) (defBody s_l_right) (defScope s_l_right) .none kV_l_right dc_l_right pm_l_right an_l_right cd_l_right ct_l_right), sl_l_right⟩)
    (c_l_right : PySem.W.codeIn K cd_l_right "_law_right" = true)
    (k_l_right : PySem.W.keepIn K (.ref f_l_right) = true)
    (a_law : PySem.W.nsIn K mainGlobals "law" = some (some (.ref f_law)))
    (l_law : K.lookup f_law = some ⟨oc_law, od_law, .func (PySem.W.fnOf "law" "law" (defArgs s_law) (defBody s_law) (defScope s_law) .none kV_law dc_law pm_law an_law cd_law ct_law), sl_law⟩)
    (c_law : PySem.W.codeIn K cd_law "law" = true)
    (k_law : PySem.W.keepIn K (.ref f_law) = true)
    (n_ValueError : PySem.W.nsIn K mainGlobals "ValueError" = some none)
    (n_abs : PySem.W.nsIn K mainGlobals "abs" = some none)
    (n_all : PySem.W.nsIn K mainGlobals "all" = some none)
    (n_bool : PySem.W.nsIn K mainGlobals "bool" = some none)
    (n_dict : PySem.W.nsIn K mainGlobals "dict" = some none)
    (n_enumerate : PySem.W.nsIn K mainGlobals "enumerate" = some none)
    (n_int : PySem.W.nsIn K mainGlobals "int" = some none)
    (n_isinstance : PySem.W.nsIn K mainGlobals "isinstance" = some none)
    (n_len : PySem.W.nsIn K mainGlobals "len" = some none)
    (n_list : PySem.W.nsIn K mainGlobals "list" = some none)
    (n_max : PySem.W.nsIn K mainGlobals "max" = some none)
    (n_min : PySem.W.nsIn K mainGlobals "min" = some none)
    (n_range : PySem.W.nsIn K mainGlobals "range" = some none)
    (n_repr : PySem.W.nsIn K mainGlobals "repr" = some none)
    (n_sorted : PySem.W.nsIn K mainGlobals "sorted" = some none)
    (n_str : PySem.W.nsIn K mainGlobals "str" = some none)
    (n_sum : PySem.W.nsIn K mainGlobals "sum" = some none)
    (n_tuple : PySem.W.nsIn K mainGlobals "tuple" = some none)
    (n_zip : PySem.W.nsIn K mainGlobals "zip" = some none)
    (m_LETTERS : PySem.W.nsIn K mainGlobals "LETTERS" = some (some (.str "abcdefghijklmnopqrstuvwxyz" t_LETTERS)))
    (m_FIGURES : PySem.W.nsIn K mainGlobals "FIGURES" = some (some (.str "0123456789" t_FIGURES)))
    (m_MOST_MARKS : PySem.W.nsIn K mainGlobals "MOST_MARKS" = some (some (.int 4 t_MOST_MARKS)))
    (m_MOST_KINDS : PySem.W.nsIn K mainGlobals "MOST_KINDS" = some (some (.int 3 t_MOST_KINDS)))
    (m_PRIMES : PySem.W.nsIn K mainGlobals "PRIMES" = some (some (.ref aP)))
    (l_PRIMES : K.lookup aP = some ⟨.type "tuple", dP, .seq uP nP, slP⟩)
    (v_PRIMES : Vals ([2, 3, 5, 7, 11, 13, 17, 19, 23, 29, 31, 37, 41, 43, 47, 53, 59, 61, 67, 71, 73, 79, 83, 89, 97].map V.int) uP.toList)
    (z_PRIMES : uP.size ≤ 1000)
    (xL_BadBook : K.lookup c_BadBook = some (excClassObj nmBadBook qnBadBook c_BadBook NnBadBook bsBadBook [.ref c_GateError, .type "ValueError", .type "Exception", .type "BaseException", .type "object"] true snBadBook subBadBook abBadBook colBadBook ddBadBook x0BadBook x1BadBook x2BadBook x3BadBook x5BadBook "ValueError.__new__"))
    (e_saBadBook : PySem.W.findIn K (.ref c_BadBook) "__setattr__" = some (some (.builtin "object.__setattr__")))
    (e_exBadBook : PySem.W.subIn K (.ref c_BadBook) (.type "BaseException") = some true)
    (e_tyBadBook : PySem.W.typeIn K (.ref c_BadBook) = some (.type "type"))
    (e_kpBadBook : PySem.W.keepIn K (.ref c_BadBook) = true)
    (e_inBadBook : PySem.W.findIn K (.ref c_BadBook) "__init__" = some (some (.ref f_GateError_init)))
    (e_noBadBook : PySem.W.findIn K (.ref c_BadBook) "value" = some none)
    (xL_NoMark : K.lookup c_NoMark = some (excClassObj nmNoMark qnNoMark c_NoMark NnNoMark bsNoMark [.ref c_GateError, .type "ValueError", .type "Exception", .type "BaseException", .type "object"] true snNoMark subNoMark abNoMark colNoMark ddNoMark x0NoMark x1NoMark x2NoMark x3NoMark x5NoMark "ValueError.__new__"))
    (e_saNoMark : PySem.W.findIn K (.ref c_NoMark) "__setattr__" = some (some (.builtin "object.__setattr__")))
    (e_exNoMark : PySem.W.subIn K (.ref c_NoMark) (.type "BaseException") = some true)
    (e_tyNoMark : PySem.W.typeIn K (.ref c_NoMark) = some (.type "type"))
    (e_kpNoMark : PySem.W.keepIn K (.ref c_NoMark) = true)
    (e_inNoMark : PySem.W.findIn K (.ref c_NoMark) "__init__" = some (some (.ref f_GateError_init)))
    (e_noNoMark : PySem.W.findIn K (.ref c_NoMark) "value" = some none)
    (xL_NoKind : K.lookup c_NoKind = some (excClassObj nmNoKind qnNoKind c_NoKind NnNoKind bsNoKind [.ref c_GateError, .type "ValueError", .type "Exception", .type "BaseException", .type "object"] true snNoKind subNoKind abNoKind colNoKind ddNoKind x0NoKind x1NoKind x2NoKind x3NoKind x5NoKind "ValueError.__new__"))
    (e_saNoKind : PySem.W.findIn K (.ref c_NoKind) "__setattr__" = some (some (.builtin "object.__setattr__")))
    (e_exNoKind : PySem.W.subIn K (.ref c_NoKind) (.type "BaseException") = some true)
    (e_tyNoKind : PySem.W.typeIn K (.ref c_NoKind) = some (.type "type"))
    (e_kpNoKind : PySem.W.keepIn K (.ref c_NoKind) = true)
    (e_inNoKind : PySem.W.findIn K (.ref c_NoKind) "__init__" = some (some (.ref f_GateError_init)))
    (e_noNoKind : PySem.W.findIn K (.ref c_NoKind) "value" = some none)
    (xL_OtherKinds : K.lookup c_OtherKinds = some (excClassObj nmOtherKinds qnOtherKinds c_OtherKinds NnOtherKinds bsOtherKinds [.ref c_GateError, .type "ValueError", .type "Exception", .type "BaseException", .type "object"] true snOtherKinds subOtherKinds abOtherKinds colOtherKinds ddOtherKinds x0OtherKinds x1OtherKinds x2OtherKinds x3OtherKinds x5OtherKinds "ValueError.__new__"))
    (e_saOtherKinds : PySem.W.findIn K (.ref c_OtherKinds) "__setattr__" = some (some (.builtin "object.__setattr__")))
    (e_exOtherKinds : PySem.W.subIn K (.ref c_OtherKinds) (.type "BaseException") = some true)
    (e_tyOtherKinds : PySem.W.typeIn K (.ref c_OtherKinds) = some (.type "type"))
    (e_kpOtherKinds : PySem.W.keepIn K (.ref c_OtherKinds) = true)
    (e_inOtherKinds : PySem.W.findIn K (.ref c_OtherKinds) "__init__" = some (some (.ref f_GateError_init)))
    (e_noOtherKinds : PySem.W.findIn K (.ref c_OtherKinds) "value" = some none)
    (e_tI : PySem.W.typeIn K (.ref f_GateError_init) = some (.type "function"))
    (e_ga : PySem.W.findIn K (.ref c_BadBook) "__getattribute__" = some (some (.builtin "BaseException.__getattribute__")))
    (e_gg : PySem.W.findIn K (.ref c_BadBook) "__getattr__" = some none)
    (e_hd : PySem.W.hasDictIn K c_BadBook = true)
    (e_ha : PySem.W.findIn K (.ref c_BadBook) "__class__" = some (some (.builtin "object.__class__")))
    (e_hn : PySem.W.specialIn K (.builtin "object.__class__") "__get__" = some (some (.builtin "getset_descriptor.__get__")))
    (e_ht : PySem.W.takesIn K (.builtin "object.__class__") = some true)
    (e_hm : PySem.W.mroIn K c_BadBook (.type "object") = some true)
    (g_ex : PySem.W.subIn K (.ref c_GateError) (.type "BaseException") = some true)
    (g_hd : PySem.W.hasDictIn K c_GateError = true)
    (g_ty : PySem.W.typeIn K (.ref c_GateError) = some (.type "type"))
    (o_ga : PySem.W.findIn K (.ref c_OtherKinds) "__getattribute__" = some (some (.builtin "BaseException.__getattribute__")))
    (o_gg : PySem.W.findIn K (.ref c_OtherKinds) "__getattr__" = some none)
    (o_hd : PySem.W.hasDictIn K c_OtherKinds = true)
    (o_ha : PySem.W.findIn K (.ref c_OtherKinds) "__class__" = some (some (.builtin "object.__class__")))
    (o_hm : PySem.W.mroIn K c_OtherKinds (.type "object") = some true)
    (o_sb : PySem.W.subIn K (.ref c_OtherKinds) (.ref c_GateError) = some true)
    (g_sb : PySem.W.subIn K (.ref c_BadBook) (.ref c_GateError) = some true)
    (b_pg : PySem.W.plainGet K c_Book Str.empty = true)
    (b_hd : PySem.W.hasDictIn K c_Book = true)
    (b_po : PySem.W.plainOver K c_Book = true)
    (b_sa : PySem.W.findIn K (.ref c_Book) "__setattr__" = some (some (.builtin "object.__setattr__")))
    (b_mk : PySem.W.makesIn K c_Book = true)
    (b_kp : PySem.W.keepIn K (.ref c_Book) = true)
    (b_n1 : PySem.W.findIn K (.ref c_Book) "text" = some none)
    (b_n2 : PySem.W.findIn K (.ref c_Book) "by" = some none)
    (b_n3 : PySem.W.findIn K (.ref c_Book) "marks" = some none)
    (b_n4 : PySem.W.findIn K (.ref c_Book) "kinds" = some none)
    (b_n5 : PySem.W.findIn K (.ref c_Book) "_weight_by_mark" = some none)
    (b_n6 : PySem.W.findIn K (.ref c_Book) "_worths_by_kind" = some none)
    (b_ca : PySem.W.findIn K (.ref c_Book) "__class__" = some (some (.builtin "object.__class__")))
    (b_ob : PySem.W.mroIn K c_Book (.type "object") = some true)
    (fn_Book_init : PySem.W.isFn K (.ref f_Book_init) = true)
    (fn_Book_len : PySem.W.isFn K (.ref f_Book_len) = true)
    (fn_Book_contains : PySem.W.isFn K (.ref f_Book_contains) = true)
    (fn_Book_eq : PySem.W.isFn K (.ref f_Book_eq) = true)
    (fn_Book_weight : PySem.W.isFn K (.ref f_Book_weight) = true)
    (fn_Book_worth : PySem.W.isFn K (.ref f_Book_worth) = true)
    (j_hd : PySem.W.codeHdIn K cJ Pt = true)
    (j_no : K.lookup Pt = none)
    : ∃ (fd : FuncData) (sp : Sp) (c Pt : Addr), h.get? Pt = some { cls := .none, data := .fields #[] } ∧ K.lookup Pt = none ∧ PySem.W.CodeHd h c Pt ∧ (∀ (s : Shared) (u : Value), BindsTo s fd ⟨[u], []⟩ [("script", u)]) ∧
      (∀ (H : Hp) (a : Addr) (ns : List Int), ns.length ≤ 63 → (∀ z ∈ ns, Builtin.Int.intBits z ≤ 1048576) → H Pt = some (.tbl #[]) → SqL K H a (ns.map V.int) → sp [.ref a] H (fun v _ => v = .bl true) E0) ∧
      ∀ base : Heap, K.In base → base.Ns mainGlobals mg → TabB base mg c Pt → OGX.FnG l.prog w K mg base 13 fa fd ["script"] sp := by
  have e := hfa.symm.trans (PySem.W.mg_of X G a_law)
  cases e
  have F_is_integer := fun_mk (st := s_is_integer) l_is_integer c_is_integer k_is_integer
  have b_is_integer := F_is_integer.binds (ps := ["value"]) fun _ _ _ _ _ _ us hl => match us, hl with | [_], _ => rfl
  have F_is_by := fun_mk (st := s_is_by) l_is_by c_is_by k_is_by
  have b_is_by := F_is_by.binds (ps := ["value"]) fun _ _ _ _ _ _ us hl => match us, hl with | [_], _ => rfl
  have F_GateError_init := fun_mk (st := s_GateError_init) l_GateError_init c_GateError_init k_GateError_init
  have b_GateError_init := F_GateError_init.binds (ps := ["self", "value"]) fun _ _ _ _ _ _ us hl => match us, hl with | [_, _], _ => rfl
  have F_need_one_sort := fun_mk (st := s_need_one_sort) l_need_one_sort c_need_one_sort k_need_one_sort
  have b_need_one_sort := F_need_one_sort.binds (ps := ["one", "other"]) fun _ _ _ _ _ _ us hl => match us, hl with | [_, _], _ => rfl
  have F_integer_of := fun_mk (st := s_integer_of) l_integer_of c_integer_of k_integer_of
  have b_integer_of := F_integer_of.binds (ps := ["word", "most"]) fun _ _ _ _ _ _ us hl => match us, hl with | [_, _], _ => rfl
  have F_is_letters := fun_mk (st := s_is_letters) l_is_letters c_is_letters k_is_letters
  have b_is_letters := F_is_letters.binds (ps := ["word", "most"]) fun _ _ _ _ _ _ us hl => match us, hl with | [_, _], _ => rfl
  have F_is_of := fun_mk (st := s_is_of) l_is_of c_is_of k_is_of
  have b_is_of := F_is_of.binds (ps := ["word", "signs"]) fun _ _ _ _ _ _ us hl => match us, hl with | [_, _], _ => rfl
  have F_Book_init := fun_mk (st := s_Book_init) l_Book_init c_Book_init k_Book_init
  have b_Book_init := F_Book_init.binds (ps := ["self", "text"]) fun _ _ _ _ _ _ us hl => match us, hl with | [_, _], _ => rfl
  have F_Book_len := fun_mk (st := s_Book_len) l_Book_len c_Book_len k_Book_len
  have b_Book_len := F_Book_len.binds (ps := ["self"]) fun _ _ _ _ _ _ us hl => match us, hl with | [_], _ => rfl
  have F_Book_contains := fun_mk (st := s_Book_contains) l_Book_contains c_Book_contains k_Book_contains
  have b_Book_contains := F_Book_contains.binds (ps := ["self", "value"]) fun _ _ _ _ _ _ us hl => match us, hl with | [_, _], _ => rfl
  have F_Book_eq := fun_mk (st := s_Book_eq) l_Book_eq c_Book_eq k_Book_eq
  have b_Book_eq := F_Book_eq.binds (ps := ["self", "other"]) fun _ _ _ _ _ _ us hl => match us, hl with | [_, _], _ => rfl
  have F_Book_weight := fun_mk (st := s_Book_weight) l_Book_weight c_Book_weight k_Book_weight
  have b_Book_weight := F_Book_weight.binds (ps := ["self", "mark"]) fun _ _ _ _ _ _ us hl => match us, hl with | [_, _], _ => rfl
  have F_Book_worth := fun_mk (st := s_Book_worth) l_Book_worth c_Book_worth k_Book_worth
  have b_Book_worth := F_Book_worth.binds (ps := ["self", "kind", "one", "other"]) fun _ _ _ _ _ _ us hl => match us, hl with | [_, _, _, _], _ => rfl
  have F_renamings := fun_mk (st := s_renamings) l_renamings c_renamings k_renamings
  have b_renamings := F_renamings.binds (ps := ["one", "other"]) fun _ _ _ _ _ _ us hl => match us, hl with | [_, _], _ => rfl
  have F_read_book := fun_mk (st := s_read_book) l_read_book c_read_book k_read_book
  have b_read_book := F_read_book.binds (ps := ["text"]) fun _ _ _ _ _ _ us hl => match us, hl with | [_], _ => rfl
  have F_read_by := fun_mk (st := s_read_by) l_read_by c_read_by k_read_by
  have b_read_by := F_read_by.binds (ps := ["words"]) fun _ _ _ _ _ _ us hl => match us, hl with | [_], _ => rfl
  have F_is_mark := fun_mk (st := s_is_mark) l_is_mark c_is_mark k_is_mark
  have b_is_mark := F_is_mark.binds (ps := ["words", "by", "weights"]) fun _ _ _ _ _ _ us hl => match us, hl with | [_, _, _], _ => rfl
  have F_is_kind := fun_mk (st := s_is_kind) l_is_kind c_is_kind k_is_kind
  have b_is_kind := F_is_kind.binds (ps := ["words", "by", "worths", "marks"]) fun _ _ _ _ _ _ us hl => match us, hl with | [_, _, _, _], _ => rfl
  have F_is_number := fun_mk (st := s_is_number) l_is_number c_is_number k_is_number
  have b_is_number := F_is_number.binds (ps := ["word", "by"]) fun _ _ _ _ _ _ us hl => match us, hl with | [_, _], _ => rfl
  have F_last_agrees := fun_mk (st := s_last_agrees) l_last_agrees c_last_agrees k_last_agrees
  have b_last_agrees := F_last_agrees.binds (ps := ["one", "other", "names"]) fun _ _ _ _ _ _ us hl => match us, hl with | [_, _, _], _ => rfl
  have F_l_pot := fun_mk (st := s_l_pot) l_l_pot c_l_pot k_l_pot
  have b_l_pot := F_l_pot.binds (ps := ["script", "place"]) fun _ _ _ _ _ _ us hl => match us, hl with | [_, _], _ => rfl
  have F_l_take := fun_mk (st := s_l_take) l_l_take c_l_take k_l_take
  have b_l_take := F_l_take.binds (ps := ["pot", "upto"]) fun _ _ _ _ _ _ us hl => match us, hl with | [_, _], _ => rfl
  have F_l_of := fun_mk (st := s_l_of) l_l_of c_l_of k_l_of
  have b_l_of := F_l_of.binds (ps := ["pot", "some"]) fun _ _ _ _ _ _ us hl => match us, hl with | [_, _], _ => rfl
  have F_l_some := fun_mk (st := s_l_some) l_l_some c_l_some k_l_some
  have b_l_some := F_l_some.binds (ps := ["pot", "pool", "many"]) fun _ _ _ _ _ _ us hl => match us, hl with | [_, _, _], _ => rfl
  have F_l_cells := fun_mk (st := s_l_cells) l_l_cells c_l_cells k_l_cells
  have b_l_cells := F_l_cells.binds (ps := ["script", "most"]) fun _ _ _ _ _ _ us hl => match us, hl with | [_, _], _ => rfl
  have F_l_heard := fun_mk (st := s_l_heard) l_l_heard c_l_heard k_l_heard
  have b_l_heard := F_l_heard.binds (ps := ["call"]) fun _ _ _ _ _ _ us hl => match us, hl with | [_], _ => rfl
  have F_l_book_names := fun_mk (st := s_l_book_names) l_l_book_names c_l_book_names k_l_book_names
  have b_l_book_names := F_l_book_names.binds (ps := ["pot", "many"]) fun _ _ _ _ _ _ us hl => match us, hl with | [_, _], _ => rfl
  have F_l_book_weights := fun_mk (st := s_l_book_weights) l_l_book_weights c_l_book_weights k_l_book_weights
  have b_l_book_weights := F_l_book_weights.binds (ps := ["pot", "by", "many", "is_above"]) fun _ _ _ _ _ _ us hl => match us, hl with | [_, _, _, _], _ => rfl
  have F_l_book_table := fun_mk (st := s_l_book_table) l_l_book_table c_l_book_table k_l_book_table
  have b_l_book_table := F_l_book_table.binds (ps := ["pot", "by", "many"]) fun _ _ _ _ _ _ us hl => match us, hl with | [_, _, _], _ => rfl
  have F_l_book_twinned := fun_mk (st := s_l_book_twinned) l_l_book_twinned c_l_book_twinned k_l_book_twinned
  have b_l_book_twinned := F_l_book_twinned.binds (ps := ["own", "one", "other"]) fun _ _ _ _ _ _ us hl => match us, hl with | [_, _, _], _ => rfl
  have F_l_book_of := fun_mk (st := s_l_book_of) l_l_book_of c_l_book_of k_l_book_of
  have b_l_book_of := F_l_book_of.binds (ps := ["pot", "by", "many", "kinds", "is_above"]) fun _ _ _ _ _ _ us hl => match us, hl with | [_, _, _, _, _], _ => rfl
  have F_l_book_drawn := fun_mk (st := s_l_book_drawn) l_l_book_drawn c_l_book_drawn k_l_book_drawn
  have b_l_book_drawn := F_l_book_drawn.binds (ps := ["pot", "bys", "manys", "kinds", "is_above"]) fun _ _ _ _ _ _ us hl => match us, hl with | [_, _, _, _, _], _ => rfl
  have F_l_book_text := fun_mk (st := s_l_book_text) l_l_book_text c_l_book_text k_l_book_text
  have b_l_book_text := F_l_book_text.binds (ps := ["own"]) fun _ _ _ _ _ _ us hl => match us, hl with | [_], _ => rfl
  have F_l_book_picked := fun_mk (st := s_l_book_picked) l_l_book_picked c_l_book_picked k_l_book_picked
  have b_l_book_picked := F_l_book_picked.binds (ps := ["own", "places", "names", "weights"]) fun _ _ _ _ _ _ us hl => match us, hl with | [_, _, _, _], _ => rfl
  have F_l_book_renamed := fun_mk (st := s_l_book_renamed) l_l_book_renamed c_l_book_renamed k_l_book_renamed
  have b_l_book_renamed := F_l_book_renamed.binds (ps := ["pot", "own"]) fun _ _ _ _ _ _ us hl => match us, hl with | [_, _], _ => rfl
  have F_l_book_split := fun_mk (st := s_l_book_split) l_l_book_split c_l_book_split k_l_book_split
  have b_l_book_split := F_l_book_split.binds (ps := ["pot", "own", "is_above"]) fun _ _ _ _ _ _ us hl => match us, hl with | [_, _, _], _ => rfl
  have F_l_book_changed := fun_mk (st := s_l_book_changed) l_l_book_changed c_l_book_changed k_l_book_changed
  have b_l_book_changed := F_l_book_changed.binds (ps := ["pot", "own"]) fun _ _ _ _ _ _ us hl => match us, hl with | [_, _], _ => rfl
  have F_l_book_other := fun_mk (st := s_l_book_other) l_l_book_other c_l_book_other k_l_book_other
  have b_l_book_other := F_l_book_other.binds (ps := ["pot", "own", "manys", "is_above"]) fun _ _ _ _ _ _ us hl => match us, hl with | [_, _, _, _], _ => rfl
  have F_l_book_called := fun_mk (st := s_l_book_called) l_l_book_called c_l_book_called k_l_book_called
  have b_l_book_called := F_l_book_called.binds (ps := ["own", "row"]) fun _ _ _ _ _ _ us hl => match us, hl with | [_, _], _ => rfl
  have F_l_orders := fun_mk (st := s_l_orders) l_l_orders c_l_orders k_l_orders
  have b_l_orders := F_l_orders.binds (ps := ["many"]) fun _ _ _ _ _ _ us hl => match us, hl with | [_], _ => rfl
  have F_l_is_renaming := fun_mk (st := s_l_is_renaming) l_l_is_renaming c_l_is_renaming k_l_is_renaming
  have b_l_is_renaming := F_l_is_renaming.binds (ps := ["one", "other", "row"]) fun _ _ _ _ _ _ us hl => match us, hl with | [_, _, _], _ => rfl
  have F_l_renamings := fun_mk (st := s_l_renamings) l_l_renamings c_l_renamings k_l_renamings
  have b_l_renamings := F_l_renamings.binds (ps := ["one", "other"]) fun _ _ _ _ _ _ us hl => match us, hl with | [_, _], _ => rfl
  have F_l_other_sort := fun_mk (st := s_l_other_sort) l_l_other_sort c_l_other_sort k_l_other_sort
  have b_l_other_sort := F_l_other_sort.binds (ps := ["pot", "own"]) fun _ _ _ _ _ _ us hl => match us, hl with | [_, _], _ => rfl
  have F_l_is_refused := fun_mk (st := s_l_is_refused) l_l_is_refused c_l_is_refused k_l_is_refused
  have b_l_is_refused := F_l_is_refused.binds (ps := ["one", "other"]) fun _ _ _ _ _ _ us hl => match us, hl with | [_, _], _ => rfl
  have F_l_right := fun_mk (st := s_l_right) l_l_right c_l_right k_l_right
  have b_l_right := F_l_right.binds (ps := ["pot"]) fun _ _ _ _ _ _ us hl => match us, hl with | [_], _ => rfl
  have F_law := fun_mk (st := s_law) l_law c_law k_law
  have b_law := F_law.binds (ps := ["script"]) fun _ _ _ _ _ _ us hl => match us, hl with | [_], _ => rfl
  let T : Txt K mg := {
    f_is_integer := f_is_integer, fd_is_integer := _, F_is_integer := F_is_integer, b_is_integer := b_is_integer
    g_is_integer := PySem.W.mg_of X G a_is_integer
    f_is_by := f_is_by, fd_is_by := _, F_is_by := F_is_by, b_is_by := b_is_by
    g_is_by := PySem.W.mg_of X G a_is_by
    f_GateError_init := f_GateError_init, fd_GateError_init := _, F_GateError_init := F_GateError_init, b_GateError_init := b_GateError_init
    f_need_one_sort := f_need_one_sort, fd_need_one_sort := _, F_need_one_sort := F_need_one_sort, b_need_one_sort := b_need_one_sort
    g_need_one_sort := PySem.W.mg_of X G a_need_one_sort
    f_integer_of := f_integer_of, fd_integer_of := _, F_integer_of := F_integer_of, b_integer_of := b_integer_of
    g_integer_of := PySem.W.mg_of X G a_integer_of
    f_is_letters := f_is_letters, fd_is_letters := _, F_is_letters := F_is_letters, b_is_letters := b_is_letters
    g_is_letters := PySem.W.mg_of X G a_is_letters
    f_is_of := f_is_of, fd_is_of := _, F_is_of := F_is_of, b_is_of := b_is_of
    g_is_of := PySem.W.mg_of X G a_is_of
    f_Book_init := f_Book_init, fd_Book_init := _, F_Book_init := F_Book_init, b_Book_init := b_Book_init
    f_Book_len := f_Book_len, fd_Book_len := _, F_Book_len := F_Book_len, b_Book_len := b_Book_len
    f_Book_contains := f_Book_contains, fd_Book_contains := _, F_Book_contains := F_Book_contains, b_Book_contains := b_Book_contains
    f_Book_eq := f_Book_eq, fd_Book_eq := _, F_Book_eq := F_Book_eq, b_Book_eq := b_Book_eq
    f_Book_weight := f_Book_weight, fd_Book_weight := _, F_Book_weight := F_Book_weight, b_Book_weight := b_Book_weight
    f_Book_worth := f_Book_worth, fd_Book_worth := _, F_Book_worth := F_Book_worth, b_Book_worth := b_Book_worth
    f_renamings := f_renamings, fd_renamings := _, F_renamings := F_renamings, b_renamings := b_renamings
    g_renamings := PySem.W.mg_of X G a_renamings
    f_read_book := f_read_book, fd_read_book := _, F_read_book := F_read_book, b_read_book := b_read_book
    g_read_book := PySem.W.mg_of X G a_read_book
    f_read_by := f_read_by, fd_read_by := _, F_read_by := F_read_by, b_read_by := b_read_by
    g_read_by := PySem.W.mg_of X G a_read_by
    f_is_mark := f_is_mark, fd_is_mark := _, F_is_mark := F_is_mark, b_is_mark := b_is_mark
    g_is_mark := PySem.W.mg_of X G a_is_mark
    f_is_kind := f_is_kind, fd_is_kind := _, F_is_kind := F_is_kind, b_is_kind := b_is_kind
    g_is_kind := PySem.W.mg_of X G a_is_kind
    f_is_number := f_is_number, fd_is_number := _, F_is_number := F_is_number, b_is_number := b_is_number
    g_is_number := PySem.W.mg_of X G a_is_number
    f_last_agrees := f_last_agrees, fd_last_agrees := _, F_last_agrees := F_last_agrees, b_last_agrees := b_last_agrees
    g_last_agrees := PySem.W.mg_of X G a_last_agrees
    f_l_pot := f_l_pot, fd_l_pot := _, F_l_pot := F_l_pot, b_l_pot := b_l_pot
    g_l_pot := PySem.W.mg_of X G a_l_pot
    f_l_take := f_l_take, fd_l_take := _, F_l_take := F_l_take, b_l_take := b_l_take
    g_l_take := PySem.W.mg_of X G a_l_take
    f_l_of := f_l_of, fd_l_of := _, F_l_of := F_l_of, b_l_of := b_l_of
    g_l_of := PySem.W.mg_of X G a_l_of
    f_l_some := f_l_some, fd_l_some := _, F_l_some := F_l_some, b_l_some := b_l_some
    g_l_some := PySem.W.mg_of X G a_l_some
    f_l_cells := f_l_cells, fd_l_cells := _, F_l_cells := F_l_cells, b_l_cells := b_l_cells
    g_l_cells := PySem.W.mg_of X G a_l_cells
    f_l_heard := f_l_heard, fd_l_heard := _, F_l_heard := F_l_heard, b_l_heard := b_l_heard
    g_l_heard := PySem.W.mg_of X G a_l_heard
    f_l_book_names := f_l_book_names, fd_l_book_names := _, F_l_book_names := F_l_book_names, b_l_book_names := b_l_book_names
    g_l_book_names := PySem.W.mg_of X G a_l_book_names
    f_l_book_weights := f_l_book_weights, fd_l_book_weights := _, F_l_book_weights := F_l_book_weights, b_l_book_weights := b_l_book_weights
    g_l_book_weights := PySem.W.mg_of X G a_l_book_weights
    f_l_book_table := f_l_book_table, fd_l_book_table := _, F_l_book_table := F_l_book_table, b_l_book_table := b_l_book_table
    g_l_book_table := PySem.W.mg_of X G a_l_book_table
    f_l_book_twinned := f_l_book_twinned, fd_l_book_twinned := _, F_l_book_twinned := F_l_book_twinned, b_l_book_twinned := b_l_book_twinned
    g_l_book_twinned := PySem.W.mg_of X G a_l_book_twinned
    f_l_book_of := f_l_book_of, fd_l_book_of := _, F_l_book_of := F_l_book_of, b_l_book_of := b_l_book_of
    g_l_book_of := PySem.W.mg_of X G a_l_book_of
    f_l_book_drawn := f_l_book_drawn, fd_l_book_drawn := _, F_l_book_drawn := F_l_book_drawn, b_l_book_drawn := b_l_book_drawn
    g_l_book_drawn := PySem.W.mg_of X G a_l_book_drawn
    f_l_book_text := f_l_book_text, fd_l_book_text := _, F_l_book_text := F_l_book_text, b_l_book_text := b_l_book_text
    g_l_book_text := PySem.W.mg_of X G a_l_book_text
    f_l_book_picked := f_l_book_picked, fd_l_book_picked := _, F_l_book_picked := F_l_book_picked, b_l_book_picked := b_l_book_picked
    g_l_book_picked := PySem.W.mg_of X G a_l_book_picked
    f_l_book_renamed := f_l_book_renamed, fd_l_book_renamed := _, F_l_book_renamed := F_l_book_renamed, b_l_book_renamed := b_l_book_renamed
    g_l_book_renamed := PySem.W.mg_of X G a_l_book_renamed
    f_l_book_split := f_l_book_split, fd_l_book_split := _, F_l_book_split := F_l_book_split, b_l_book_split := b_l_book_split
    g_l_book_split := PySem.W.mg_of X G a_l_book_split
    f_l_book_changed := f_l_book_changed, fd_l_book_changed := _, F_l_book_changed := F_l_book_changed, b_l_book_changed := b_l_book_changed
    g_l_book_changed := PySem.W.mg_of X G a_l_book_changed
    f_l_book_other := f_l_book_other, fd_l_book_other := _, F_l_book_other := F_l_book_other, b_l_book_other := b_l_book_other
    g_l_book_other := PySem.W.mg_of X G a_l_book_other
    f_l_book_called := f_l_book_called, fd_l_book_called := _, F_l_book_called := F_l_book_called, b_l_book_called := b_l_book_called
    g_l_book_called := PySem.W.mg_of X G a_l_book_called
    f_l_orders := f_l_orders, fd_l_orders := _, F_l_orders := F_l_orders, b_l_orders := b_l_orders
    g_l_orders := PySem.W.mg_of X G a_l_orders
    f_l_is_renaming := f_l_is_renaming, fd_l_is_renaming := _, F_l_is_renaming := F_l_is_renaming, b_l_is_renaming := b_l_is_renaming
    g_l_is_renaming := PySem.W.mg_of X G a_l_is_renaming
    f_l_renamings := f_l_renamings, fd_l_renamings := _, F_l_renamings := F_l_renamings, b_l_renamings := b_l_renamings
    g_l_renamings := PySem.W.mg_of X G a_l_renamings
    f_l_other_sort := f_l_other_sort, fd_l_other_sort := _, F_l_other_sort := F_l_other_sort, b_l_other_sort := b_l_other_sort
    g_l_other_sort := PySem.W.mg_of X G a_l_other_sort
    f_l_is_refused := f_l_is_refused, fd_l_is_refused := _, F_l_is_refused := F_l_is_refused, b_l_is_refused := b_l_is_refused
    g_l_is_refused := PySem.W.mg_of X G a_l_is_refused
    f_l_right := f_l_right, fd_l_right := _, F_l_right := F_l_right, b_l_right := b_l_right
    g_l_right := PySem.W.mg_of X G a_l_right
    f_law := fa, fd_law := _, F_law := F_law, b_law := b_law
    g_law := PySem.W.mg_of X G a_law
    n_ValueError := PySem.W.mg_none_of X G n_ValueError
    n_abs := PySem.W.mg_none_of X G n_abs
    n_all := PySem.W.mg_none_of X G n_all
    n_bool := PySem.W.mg_none_of X G n_bool
    n_dict := PySem.W.mg_none_of X G n_dict
    n_enumerate := PySem.W.mg_none_of X G n_enumerate
    n_int := PySem.W.mg_none_of X G n_int
    n_isinstance := PySem.W.mg_none_of X G n_isinstance
    n_len := PySem.W.mg_none_of X G n_len
    n_list := PySem.W.mg_none_of X G n_list
    n_max := PySem.W.mg_none_of X G n_max
    n_min := PySem.W.mg_none_of X G n_min
    n_range := PySem.W.mg_none_of X G n_range
    n_repr := PySem.W.mg_none_of X G n_repr
    n_sorted := PySem.W.mg_none_of X G n_sorted
    n_str := PySem.W.mg_none_of X G n_str
    n_sum := PySem.W.mg_none_of X G n_sum
    n_tuple := PySem.W.mg_none_of X G n_tuple
    n_zip := PySem.W.mg_none_of X G n_zip
    m_LETTERS := ⟨_, PySem.W.mg_of X G m_LETTERS, ⟨_, rfl⟩⟩
    m_FIGURES := ⟨_, PySem.W.mg_of X G m_FIGURES, ⟨_, rfl⟩⟩
    m_MOST_MARKS := ⟨_, PySem.W.mg_of X G m_MOST_MARKS, ⟨_, rfl⟩⟩
    m_MOST_KINDS := ⟨_, PySem.W.mg_of X G m_MOST_KINDS, ⟨_, rfl⟩⟩
    m_GREATEST := by
      obtain ⟨v, e1, e2⟩ := hG
      cases e2
      exact ⟨_, e1, ⟨_, rfl⟩⟩
    a_PRIMES := aP, m_PRIMES := ⟨_, PySem.W.mg_of X G m_PRIMES, rfl⟩, sq_PRIMES := fun H => .inr ⟨_, uP, nP, l_PRIMES, rfl, rfl, Nat.le_trans z_PRIMES (by decide), v_PRIMES⟩
    c_BadBook := c_BadBook, g_BadBook := PySem.W.mg_of X G a_BadBook
    c_NoMark := c_NoMark, g_NoMark := PySem.W.mg_of X G a_NoMark
    c_NoKind := c_NoKind, g_NoKind := PySem.W.mg_of X G a_NoKind
    c_OtherKinds := c_OtherKinds, g_OtherKinds := PySem.W.mg_of X G a_OtherKinds
    c_GateError := c_GateError, g_GateError := PySem.W.mg_of X G a_GateError
    c_Book := c_Book, g_Book := PySem.W.mg_of X G a_Book }
  have XT : TxtX K mg T := {
    exB := ⟨⟨nmBadBook, qnBadBook, NnBadBook, bsBadBook, _, snBadBook, subBadBook, abBadBook, colBadBook, ddBadBook, x0BadBook, x1BadBook, x2BadBook, x3BadBook, x5BadBook, xL_BadBook, rfl⟩, e_saBadBook, e_exBadBook, e_tyBadBook, e_kpBadBook⟩
    inB := e_inBadBook
    tyI := e_tI
    noV := e_noBadBook
    xf := ⟨e_ga, e_gg, e_exBadBook, e_hd⟩
    ec := ⟨e_ga, e_gg, e_exBadBook, e_hd, e_ha, e_hn, e_ht, e_hm⟩
    te := PySem.W.exm_ref g_ex g_hd g_ty g_sb
    kt := if_pos (by simp)
    cl := ⟨b_pg, b_hd, b_po, b_sa⟩
    mkB := ⟨b_mk, a_Book_init, fn_Book_init, b_kp⟩
    na1 := b_n1
    na2 := b_n2
    na3 := b_n3
    na4 := b_n4
    na5 := b_n5
    na6 := b_n6
    ca := b_ca
    ob := b_ob
    kb := if_pos (by simp) }
  have XM : TxtM K mg T := {
    exM := ⟨⟨nmNoMark, qnNoMark, NnNoMark, bsNoMark, _, snNoMark, subNoMark, abNoMark, colNoMark, ddNoMark, x0NoMark, x1NoMark, x2NoMark, x3NoMark, x5NoMark, xL_NoMark, rfl⟩, e_saNoMark, e_exNoMark, e_tyNoMark, e_kpNoMark⟩
    inM := e_inNoMark
    noM := e_noNoMark
    exK := ⟨⟨nmNoKind, qnNoKind, NnNoKind, bsNoKind, _, snNoKind, subNoKind, abNoKind, colNoKind, ddNoKind, x0NoKind, x1NoKind, x2NoKind, x3NoKind, x5NoKind, xL_NoKind, rfl⟩, e_saNoKind, e_exNoKind, e_tyNoKind, e_kpNoKind⟩
    inK := e_inNoKind
    noK := e_noNoKind
    exO := ⟨⟨nmOtherKinds, qnOtherKinds, NnOtherKinds, bsOtherKinds, _, snOtherKinds, subOtherKinds, abOtherKinds, colOtherKinds, ddOtherKinds, x0OtherKinds, x1OtherKinds, x2OtherKinds, x3OtherKinds, x5OtherKinds, xL_OtherKinds, rfl⟩, e_saOtherKinds, e_exOtherKinds, e_tyOtherKinds, e_kpOtherKinds⟩
    inO := e_inOtherKinds
    noO := e_noOtherKinds
    xfO := ⟨o_ga, o_gg, e_exOtherKinds, o_hd⟩
    ecO := ⟨o_ga, o_gg, e_exOtherKinds, o_hd, o_ha, e_hn, e_ht, o_hm⟩
    teO := PySem.W.exm_ref g_ex g_hd g_ty o_sb
    ktO := if_pos (by simp)
    ct := a_Book_contains
    ctF := fn_Book_contains
    m_weight := ⟨a_Book_weight, fn_Book_weight, k_Book_weight⟩
    m_worth := ⟨a_Book_worth, fn_Book_worth, k_Book_worth⟩ }
  have J : JAt K mg T cJ := ⟨⟨_, _, _, _, _, _, _, _, rfl, l_l_is_refused, c_l_is_refused⟩⟩
  refine ⟨T.fd_law, spLaw2 K Pt, cJ, Pt, hPt, j_no, PySem.W.codeHd_of_K X j_hd, fun s u => .of_eq rfl, ?_, ?_⟩
  · intro H a ns hl hb hT hS
    exact ⟨a, ns, rfl, hS, hl, hb, .nil hT, fun _ => rfl⟩
  · intro base hK hN hTB
    exact ok_law (P := l.prog) (w := w) (c := cJ) (Pt := Pt) T XT XM J hTB
end OG
open PySem PySem.W PyProof.Rows in
set_option maxRecDepth 100000 in
set_option maxHeartbeats 0 in
theorem PySem.Challenge.cw_opengates_k02_whole_renamings_holds : PySem.Challenge.rw_opengates_k02_whole_renamings.Holds := by
  w_on; o_law; k_head; (case hw => w_witness2)
  k_fill
  refine OGX.walkGT (l := PySem.Challenge.rw_opengates_k02_whole_renamings) (n := 63) (k := 13) (x := "script") rfl (by decide) rfl ⟨rfl, by decide, by decide⟩ (fun w h Y => PySem.W.km_in_of Y) ?F
  case F =>
    intro w mg fa h Y X KX G hmg
    refine' OG.all_mk KX G hmg (X.2.val _ List.mem_cons_self) (PySem.W.km_tabs_of Y _ List.mem_cons_self) ?p_a_BadBook ?p_a_NoMark ?p_a_NoKind ?p_a_OtherKinds ?p_a_GateError ?p_a_Book ?p_a_is_integer ?p_l_is_integer ?p_c_is_integer ?p_k_is_integer ?p_a_is_by ?p_l_is_by ?p_c_is_by ?p_k_is_by ?p_a_GateError_init ?p_l_GateError_init ?p_c_GateError_init ?p_k_GateError_init ?p_a_need_one_sort ?p_l_need_one_sort ?p_c_need_one_sort ?p_k_need_one_sort ?p_a_integer_of ?p_l_integer_of ?p_c_integer_of ?p_k_integer_of ?p_a_is_letters ?p_l_is_letters ?p_c_is_letters ?p_k_is_letters ?p_a_is_of ?p_l_is_of ?p_c_is_of ?p_k_is_of ?p_a_Book_init ?p_l_Book_init ?p_c_Book_init ?p_k_Book_init ?p_a_Book_len ?p_l_Book_len ?p_c_Book_len ?p_k_Book_len ?p_a_Book_contains ?p_l_Book_contains ?p_c_Book_contains ?p_k_Book_contains ?p_a_Book_eq ?p_l_Book_eq ?p_c_Book_eq ?p_k_Book_eq ?p_a_Book_weight ?p_l_Book_weight ?p_c_Book_weight ?p_k_Book_weight ?p_a_Book_worth ?p_l_Book_worth ?p_c_Book_worth ?p_k_Book_worth ?p_a_renamings ?p_l_renamings ?p_c_renamings ?p_k_renamings ?p_a_read_book ?p_l_read_book ?p_c_read_book ?p_k_read_book ?p_a_read_by ?p_l_read_by ?p_c_read_by ?p_k_read_by ?p_a_is_mark ?p_l_is_mark ?p_c_is_mark ?p_k_is_mark ?p_a_is_kind ?p_l_is_kind ?p_c_is_kind ?p_k_is_kind ?p_a_is_number ?p_l_is_number ?p_c_is_number ?p_k_is_number ?p_a_last_agrees ?p_l_last_agrees ?p_c_last_agrees ?p_k_last_agrees ?p_a_l_pot ?p_l_l_pot ?p_c_l_pot ?p_k_l_pot ?p_a_l_take ?p_l_l_take ?p_c_l_take ?p_k_l_take ?p_a_l_of ?p_l_l_of ?p_c_l_of ?p_k_l_of ?p_a_l_some ?p_l_l_some ?p_c_l_some ?p_k_l_some ?p_a_l_cells ?p_l_l_cells ?p_c_l_cells ?p_k_l_cells ?p_a_l_heard ?p_l_l_heard ?p_c_l_heard ?p_k_l_heard ?p_a_l_book_names ?p_l_l_book_names ?p_c_l_book_names ?p_k_l_book_names ?p_a_l_book_weights ?p_l_l_book_weights ?p_c_l_book_weights ?p_k_l_book_weights ?p_a_l_book_table ?p_l_l_book_table ?p_c_l_book_table ?p_k_l_book_table ?p_a_l_book_twinned ?p_l_l_book_twinned ?p_c_l_book_twinned ?p_k_l_book_twinned ?p_a_l_book_of ?p_l_l_book_of ?p_c_l_book_of ?p_k_l_book_of ?p_a_l_book_drawn ?p_l_l_book_drawn ?p_c_l_book_drawn ?p_k_l_book_drawn ?p_a_l_book_text ?p_l_l_book_text ?p_c_l_book_text ?p_k_l_book_text ?p_a_l_book_picked ?p_l_l_book_picked ?p_c_l_book_picked ?p_k_l_book_picked ?p_a_l_book_renamed ?p_l_l_book_renamed ?p_c_l_book_renamed ?p_k_l_book_renamed ?p_a_l_book_split ?p_l_l_book_split ?p_c_l_book_split ?p_k_l_book_split ?p_a_l_book_changed ?p_l_l_book_changed ?p_c_l_book_changed ?p_k_l_book_changed ?p_a_l_book_other ?p_l_l_book_other ?p_c_l_book_other ?p_k_l_book_other ?p_a_l_book_called ?p_l_l_book_called ?p_c_l_book_called ?p_k_l_book_called ?p_a_l_orders ?p_l_l_orders ?p_c_l_orders ?p_k_l_orders ?p_a_l_is_renaming ?p_l_l_is_renaming ?p_c_l_is_renaming ?p_k_l_is_renaming ?p_a_l_renamings ?p_l_l_renamings ?p_c_l_renamings ?p_k_l_renamings ?p_a_l_other_sort ?p_l_l_other_sort ?p_c_l_other_sort ?p_k_l_other_sort ?p_a_l_is_refused ?p_l_l_is_refused ?p_c_l_is_refused ?p_k_l_is_refused ?p_a_l_right ?p_l_l_right ?p_c_l_right ?p_k_l_right ?p_a_law ?p_l_law ?p_c_law ?p_k_law ?p_n_ValueError ?p_n_abs ?p_n_all ?p_n_bool ?p_n_dict ?p_n_enumerate ?p_n_int ?p_n_isinstance ?p_n_len ?p_n_list ?p_n_max ?p_n_min ?p_n_range ?p_n_repr ?p_n_sorted ?p_n_str ?p_n_sum ?p_n_tuple ?p_n_zip ?p_m_LETTERS ?p_m_FIGURES ?p_m_MOST_MARKS ?p_m_MOST_KINDS ?p_m_PRIMES ?p_l_PRIMES ?p_v_PRIMES ?p_z_PRIMES ?p_xL_BadBook ?p_e_saBadBook ?p_e_exBadBook ?p_e_tyBadBook ?p_e_kpBadBook ?p_e_inBadBook ?p_e_noBadBook ?p_xL_NoMark ?p_e_saNoMark ?p_e_exNoMark ?p_e_tyNoMark ?p_e_kpNoMark ?p_e_inNoMark ?p_e_noNoMark ?p_xL_NoKind ?p_e_saNoKind ?p_e_exNoKind ?p_e_tyNoKind ?p_e_kpNoKind ?p_e_inNoKind ?p_e_noNoKind ?p_xL_OtherKinds ?p_e_saOtherKinds ?p_e_exOtherKinds ?p_e_tyOtherKinds ?p_e_kpOtherKinds ?p_e_inOtherKinds ?p_e_noOtherKinds ?p_e_tI ?p_e_ga ?p_e_gg ?p_e_hd ?p_e_ha ?p_e_hn ?p_e_ht ?p_e_hm ?p_g_ex ?p_g_hd ?p_g_ty ?p_o_ga ?p_o_gg ?p_o_hd ?p_o_ha ?p_o_hm ?p_o_sb ?p_g_sb ?p_b_pg ?p_b_hd ?p_b_po ?p_b_sa ?p_b_mk ?p_b_kp ?p_b_n1 ?p_b_n2 ?p_b_n3 ?p_b_n4 ?p_b_n5 ?p_b_n6 ?p_b_ca ?p_b_ob ?p_fn_Book_init ?p_fn_Book_len ?p_fn_Book_contains ?p_fn_Book_eq ?p_fn_Book_weight ?p_fn_Book_worth ?p_j_hd ?p_j_no
    (case p_a_BadBook => k_is)
    (case p_a_NoMark => k_is)
    (case p_a_NoKind => k_is)
    (case p_a_OtherKinds => k_is)
    (case p_a_GateError => k_is)
    (case p_a_Book => k_is)
    (case p_a_is_integer => k_is)
    (case p_l_is_integer => k_is)
    (case p_c_is_integer => k_is)
    (case p_k_is_integer => k_is)
    (case p_a_is_by => k_is)
    (case p_l_is_by => k_is)
    (case p_c_is_by => k_is)
    (case p_k_is_by => k_is)
    (case p_a_GateError_init => k_is)
    (case p_l_GateError_init => k_is)
    (case p_c_GateError_init => k_is)
    (case p_k_GateError_init => k_is)
    (case p_a_need_one_sort => k_is)
    (case p_l_need_one_sort => k_is)
    (case p_c_need_one_sort => k_is)
    (case p_k_need_one_sort => k_is)
    (case p_a_integer_of => k_is)
    (case p_l_integer_of => k_is)
    (case p_c_integer_of => k_is)
    (case p_k_integer_of => k_is)
    (case p_a_is_letters => k_is)
    (case p_l_is_letters => k_is)
    (case p_c_is_letters => k_is)
    (case p_k_is_letters => k_is)
    (case p_a_is_of => k_is)
    (case p_l_is_of => k_is)
    (case p_c_is_of => k_is)
    (case p_k_is_of => k_is)
    (case p_a_Book_init => k_is)
    (case p_l_Book_init => k_is)
    (case p_c_Book_init => k_is)
    (case p_k_Book_init => k_is)
    (case p_a_Book_len => k_is)
    (case p_l_Book_len => k_is)
    (case p_c_Book_len => k_is)
    (case p_k_Book_len => k_is)
    (case p_a_Book_contains => k_is)
    (case p_l_Book_contains => k_is)
    (case p_c_Book_contains => k_is)
    (case p_k_Book_contains => k_is)
    (case p_a_Book_eq => k_is)
    (case p_l_Book_eq => k_is)
    (case p_c_Book_eq => k_is)
    (case p_k_Book_eq => k_is)
    (case p_a_Book_weight => k_is)
    (case p_l_Book_weight => k_is)
    (case p_c_Book_weight => k_is)
    (case p_k_Book_weight => k_is)
    (case p_a_Book_worth => k_is)
    (case p_l_Book_worth => k_is)
    (case p_c_Book_worth => k_is)
    (case p_k_Book_worth => k_is)
    (case p_a_renamings => k_is)
    (case p_l_renamings => k_is)
    (case p_c_renamings => k_is)
    (case p_k_renamings => k_is)
    (case p_a_read_book => k_is)
    (case p_l_read_book => k_is)
    (case p_c_read_book => k_is)
    (case p_k_read_book => k_is)
    (case p_a_read_by => k_is)
    (case p_l_read_by => k_is)
    (case p_c_read_by => k_is)
    (case p_k_read_by => k_is)
    (case p_a_is_mark => k_is)
    (case p_l_is_mark => k_is)
    (case p_c_is_mark => k_is)
    (case p_k_is_mark => k_is)
    (case p_a_is_kind => k_is)
    (case p_l_is_kind => k_is)
    (case p_c_is_kind => k_is)
    (case p_k_is_kind => k_is)
    (case p_a_is_number => k_is)
    (case p_l_is_number => k_is)
    (case p_c_is_number => k_is)
    (case p_k_is_number => k_is)
    (case p_a_last_agrees => k_is)
    (case p_l_last_agrees => k_is)
    (case p_c_last_agrees => k_is)
    (case p_k_last_agrees => k_is)
    (case p_a_l_pot => k_is)
    (case p_l_l_pot => k_is)
    (case p_c_l_pot => k_is)
    (case p_k_l_pot => k_is)
    (case p_a_l_take => k_is)
    (case p_l_l_take => k_is)
    (case p_c_l_take => k_is)
    (case p_k_l_take => k_is)
    (case p_a_l_of => k_is)
    (case p_l_l_of => k_is)
    (case p_c_l_of => k_is)
    (case p_k_l_of => k_is)
    (case p_a_l_some => k_is)
    (case p_l_l_some => k_is)
    (case p_c_l_some => k_is)
    (case p_k_l_some => k_is)
    (case p_a_l_cells => k_is)
    (case p_l_l_cells => k_is)
    (case p_c_l_cells => k_is)
    (case p_k_l_cells => k_is)
    (case p_a_l_heard => k_is)
    (case p_l_l_heard => k_is)
    (case p_c_l_heard => k_is)
    (case p_k_l_heard => k_is)
    (case p_a_l_book_names => k_is)
    (case p_l_l_book_names => k_is)
    (case p_c_l_book_names => k_is)
    (case p_k_l_book_names => k_is)
    (case p_a_l_book_weights => k_is)
    (case p_l_l_book_weights => k_is)
    (case p_c_l_book_weights => k_is)
    (case p_k_l_book_weights => k_is)
    (case p_a_l_book_table => k_is)
    (case p_l_l_book_table => k_is)
    (case p_c_l_book_table => k_is)
    (case p_k_l_book_table => k_is)
    (case p_a_l_book_twinned => k_is)
    (case p_l_l_book_twinned => k_is)
    (case p_c_l_book_twinned => k_is)
    (case p_k_l_book_twinned => k_is)
    (case p_a_l_book_of => k_is)
    (case p_l_l_book_of => k_is)
    (case p_c_l_book_of => k_is)
    (case p_k_l_book_of => k_is)
    (case p_a_l_book_drawn => k_is)
    (case p_l_l_book_drawn => k_is)
    (case p_c_l_book_drawn => k_is)
    (case p_k_l_book_drawn => k_is)
    (case p_a_l_book_text => k_is)
    (case p_l_l_book_text => k_is)
    (case p_c_l_book_text => k_is)
    (case p_k_l_book_text => k_is)
    (case p_a_l_book_picked => k_is)
    (case p_l_l_book_picked => k_is)
    (case p_c_l_book_picked => k_is)
    (case p_k_l_book_picked => k_is)
    (case p_a_l_book_renamed => k_is)
    (case p_l_l_book_renamed => k_is)
    (case p_c_l_book_renamed => k_is)
    (case p_k_l_book_renamed => k_is)
    (case p_a_l_book_split => k_is)
    (case p_l_l_book_split => k_is)
    (case p_c_l_book_split => k_is)
    (case p_k_l_book_split => k_is)
    (case p_a_l_book_changed => k_is)
    (case p_l_l_book_changed => k_is)
    (case p_c_l_book_changed => k_is)
    (case p_k_l_book_changed => k_is)
    (case p_a_l_book_other => k_is)
    (case p_l_l_book_other => k_is)
    (case p_c_l_book_other => k_is)
    (case p_k_l_book_other => k_is)
    (case p_a_l_book_called => k_is)
    (case p_l_l_book_called => k_is)
    (case p_c_l_book_called => k_is)
    (case p_k_l_book_called => k_is)
    (case p_a_l_orders => k_is)
    (case p_l_l_orders => k_is)
    (case p_c_l_orders => k_is)
    (case p_k_l_orders => k_is)
    (case p_a_l_is_renaming => k_is)
    (case p_l_l_is_renaming => k_is)
    (case p_c_l_is_renaming => k_is)
    (case p_k_l_is_renaming => k_is)
    (case p_a_l_renamings => k_is)
    (case p_l_l_renamings => k_is)
    (case p_c_l_renamings => k_is)
    (case p_k_l_renamings => k_is)
    (case p_a_l_other_sort => k_is)
    (case p_l_l_other_sort => k_is)
    (case p_c_l_other_sort => k_is)
    (case p_k_l_other_sort => k_is)
    (case p_a_l_is_refused => k_is)
    (case p_l_l_is_refused => k_is)
    (case p_c_l_is_refused => k_is)
    (case p_k_l_is_refused => k_is)
    (case p_a_l_right => k_is)
    (case p_l_l_right => k_is)
    (case p_c_l_right => k_is)
    (case p_k_l_right => k_is)
    (case p_a_law => k_is)
    (case p_l_law => k_is)
    (case p_c_law => k_is)
    (case p_k_law => k_is)
    (case p_n_ValueError => k_is)
    (case p_n_abs => k_is)
    (case p_n_all => k_is)
    (case p_n_bool => k_is)
    (case p_n_dict => k_is)
    (case p_n_enumerate => k_is)
    (case p_n_int => k_is)
    (case p_n_isinstance => k_is)
    (case p_n_len => k_is)
    (case p_n_list => k_is)
    (case p_n_max => k_is)
    (case p_n_min => k_is)
    (case p_n_range => k_is)
    (case p_n_repr => k_is)
    (case p_n_sorted => k_is)
    (case p_n_str => k_is)
    (case p_n_sum => k_is)
    (case p_n_tuple => k_is)
    (case p_n_zip => k_is)
    (case p_m_LETTERS => k_is)
    (case p_m_FIGURES => k_is)
    (case p_m_MOST_MARKS => k_is)
    (case p_m_MOST_KINDS => k_is)
    (case p_m_PRIMES => k_is)
    (case p_l_PRIMES => k_is)
    (case p_v_PRIMES => (repeat (first | exact .nil | refine .cons ⟨_, rfl⟩ ?_)))
    (case p_z_PRIMES => decide)
    (case p_xL_BadBook => k_is)
    (case p_e_saBadBook => k_is)
    (case p_e_exBadBook => k_is)
    (case p_e_tyBadBook => k_is)
    (case p_e_kpBadBook => k_is)
    (case p_e_inBadBook => k_is)
    (case p_e_noBadBook => k_is)
    (case p_xL_NoMark => k_is)
    (case p_e_saNoMark => k_is)
    (case p_e_exNoMark => k_is)
    (case p_e_tyNoMark => k_is)
    (case p_e_kpNoMark => k_is)
    (case p_e_inNoMark => k_is)
    (case p_e_noNoMark => k_is)
    (case p_xL_NoKind => k_is)
    (case p_e_saNoKind => k_is)
    (case p_e_exNoKind => k_is)
    (case p_e_tyNoKind => k_is)
    (case p_e_kpNoKind => k_is)
    (case p_e_inNoKind => k_is)
    (case p_e_noNoKind => k_is)
    (case p_xL_OtherKinds => k_is)
    (case p_e_saOtherKinds => k_is)
    (case p_e_exOtherKinds => k_is)
    (case p_e_tyOtherKinds => k_is)
    (case p_e_kpOtherKinds => k_is)
    (case p_e_inOtherKinds => k_is)
    (case p_e_noOtherKinds => k_is)
    (case p_e_tI => k_is)
    (case p_e_ga => k_is)
    (case p_e_gg => k_is)
    (case p_e_hd => k_is)
    (case p_e_ha => k_is)
    (case p_e_hn => k_is)
    (case p_e_ht => k_is)
    (case p_e_hm => k_is)
    (case p_g_ex => k_is)
    (case p_g_hd => k_is)
    (case p_g_ty => k_is)
    (case p_o_ga => k_is)
    (case p_o_gg => k_is)
    (case p_o_hd => k_is)
    (case p_o_ha => k_is)
    (case p_o_hm => k_is)
    (case p_o_sb => k_is)
    (case p_g_sb => k_is)
    (case p_b_pg => k_is)
    (case p_b_hd => k_is)
    (case p_b_po => k_is)
    (case p_b_sa => k_is)
    (case p_b_mk => k_is)
    (case p_b_kp => k_is)
    (case p_b_n1 => k_is)
    (case p_b_n2 => k_is)
    (case p_b_n3 => k_is)
    (case p_b_n4 => k_is)
    (case p_b_n5 => k_is)
    (case p_b_n6 => k_is)
    (case p_b_ca => k_is)
    (case p_b_ob => k_is)
    (case p_fn_Book_init => k_is)
    (case p_fn_Book_len => k_is)
    (case p_fn_Book_contains => k_is)
    (case p_fn_Book_eq => k_is)
    (case p_fn_Book_weight => k_is)
    (case p_fn_Book_worth => k_is)
    (case p_j_hd => kernel_rfl)
    (case p_j_no => kernel_rfl)
