import PyProof.Rows.All
import Wide.All
import OpenK.AllK
import Wide.FinOn
import HandS.ForMost
import HandS.Exc
import HandS.TryOnly
import HandS.Wide
import HandS.WideBits
import HandS.StrMore
import HandS.Conv
import HandS.Style
import HandS.TupAny
import HandS.NoneIn
import HandS.Codes
import HandS.Zip
import HandS.Small
import HandS.ExcInit
import HandS.ExcIs
import HandS.IsInst
import HandS.RaiseMore
import HandS.Lambda
import HandS.Replace
import HandS.OwnEq
import HandS.EndTab
import KE.KNestM
import PyProof.ReprRoads
import PyProof.InstNe
import PyProof.ListStr
import KE.IntTextLaws
import HandS.Walk
import HandS.ExcField
import KE.KExcIs
import KE.GoesEnumKw
import KE.KDictList
import HandS.WordsExc
import HandS.Strs
import HandS.Deep
import KE.SortData
import PyProof.ReprLen
import PyProof.ReprText
import PyProof.StrLawsRepr
import HandS.Star
import KE.KRevSl
import HandS.FStr
import PyProof.EqAt
import PySem.Challenge.RW_opengates_k03_books_renamed_and_what_boo
set_option Elab.async false
set_option linter.all false
set_option maxRecDepth 100000
set_option maxHeartbeats 4000000
namespace OG
open PySem PySem.Spec PyProof.Rows L2
def top (i : Nat) : Stmt := PySem.Challenge.pw_opengates_k03_books_renamed_and_what_boo.main.body.getD i (.Pass ⟨0, 0, 0, 0⟩)
abbrev s_is_integer : Stmt := top 2
theorem sc_is_integer : FnScope ["value"] ["value"] (defScope s_is_integer) := ⟨rfl, rfl, rfl, by decide +kernel, rfl, by decide +kernel, by decide +kernel⟩
abbrev s_is_by : Stmt := top 3
theorem sc_is_by : FnScope ["value"] ["value"] (defScope s_is_by) := ⟨rfl, rfl, rfl, by decide +kernel, rfl, by decide +kernel, by decide +kernel⟩
abbrev s_GateError_init : Stmt := inClass (top 5) 0
theorem sc_GateError_init : FnScope ["self", "value"] ["self", "value"] (defScope s_GateError_init) := ⟨rfl, rfl, rfl, by decide +kernel, rfl, by decide +kernel, by decide +kernel⟩
abbrev s_integer_of : Stmt := top 13
theorem sc_integer_of : FnScope ["word", "most", "figures"] ["word", "most"] (defScope s_integer_of) := ⟨rfl, rfl, rfl, by decide +kernel, rfl, by decide +kernel, by decide +kernel⟩
abbrev s_is_letters : Stmt := top 14
theorem sc_is_letters : FnScope ["word", "most"] ["word", "most"] (defScope s_is_letters) := ⟨rfl, rfl, rfl, by decide +kernel, rfl, by decide +kernel, by decide +kernel⟩
abbrev s_is_of : Stmt := top 15
theorem sc_is_of : FnScope ["word", "signs", "sign"] ["word", "signs"] (defScope s_is_of) := ⟨rfl, rfl, rfl, by decide +kernel, rfl, by decide +kernel, by decide +kernel⟩
abbrev s_Book_init : Stmt := inClass (top 20) 0
theorem sc_Book_init : FnScope ["self", "text", "by", "weights", "worths"] ["self", "text"] (defScope s_Book_init) := ⟨rfl, rfl, rfl, by decide +kernel, rfl, by decide +kernel, by decide +kernel⟩
abbrev s_Book_len : Stmt := inClass (top 20) 1
theorem sc_Book_len : FnScope ["self"] ["self"] (defScope s_Book_len) := ⟨rfl, rfl, rfl, by decide +kernel, rfl, by decide +kernel, by decide +kernel⟩
abbrev s_Book_contains : Stmt := inClass (top 20) 2
theorem sc_Book_contains : FnScope ["self", "value"] ["self", "value"] (defScope s_Book_contains) := ⟨rfl, rfl, rfl, by decide +kernel, rfl, by decide +kernel, by decide +kernel⟩
abbrev s_Book_eq : Stmt := inClass (top 20) 3
theorem sc_Book_eq : FnScope ["self", "other"] ["self", "other"] (defScope s_Book_eq) := ⟨rfl, rfl, rfl, by decide +kernel, rfl, by decide +kernel, by decide +kernel⟩
abbrev s_Book_weight : Stmt := inClass (top 20) 4
theorem sc_Book_weight : FnScope ["self", "mark"] ["self", "mark"] (defScope s_Book_weight) := ⟨rfl, rfl, rfl, by decide +kernel, rfl, by decide +kernel, by decide +kernel⟩
abbrev s_Book_worth : Stmt := inClass (top 20) 5
theorem sc_Book_worth : FnScope ["self", "kind", "one", "other", "at"] ["self", "kind", "one", "other"] (defScope s_Book_worth) := ⟨rfl, rfl, rfl, by decide +kernel, rfl, by decide +kernel, by decide +kernel⟩
abbrev s_renamed : Stmt := top 21
theorem sc_renamed : FnScope ["book", "names", "weights", "mark"] ["book", "names"] (defScope s_renamed) := ⟨rfl, rfl, rfl, by decide +kernel, rfl, by decide +kernel, by decide +kernel⟩
abbrev s_read_book : Stmt := top 22
theorem sc_read_book : FnScope ["text", "rows", "by", "weights", "worths", "number", "row", "words", "word"] ["text"] (defScope s_read_book) := ⟨rfl, rfl, rfl, by decide +kernel, rfl, by decide +kernel, by decide +kernel⟩
abbrev s_read_by : Stmt := top 23
theorem sc_read_by : FnScope ["words", "by"] ["words"] (defScope s_read_by) := ⟨rfl, rfl, rfl, by decide +kernel, rfl, by decide +kernel, by decide +kernel⟩
abbrev s_is_mark : Stmt := top 24
theorem sc_is_mark : FnScope ["words", "by", "weights"] ["words", "by", "weights"] (defScope s_is_mark) := ⟨rfl, rfl, rfl, by decide +kernel, rfl, by decide +kernel, by decide +kernel⟩
abbrev s_is_kind : Stmt := top 25
theorem sc_is_kind : FnScope ["words", "by", "worths", "marks", "word"] ["words", "by", "worths", "marks"] (defScope s_is_kind) := ⟨rfl, rfl, rfl, by decide +kernel, rfl, by decide +kernel, by decide +kernel⟩
abbrev s_is_number : Stmt := top 26
theorem sc_is_number : FnScope ["word", "by", "number"] ["word", "by"] (defScope s_is_number) := ⟨rfl, rfl, rfl, by decide +kernel, rfl, by decide +kernel, by decide +kernel⟩
abbrev s_are_names : Stmt := top 27
theorem sc_are_names : FnScope ["value", "many", "name"] ["value", "many"] (defScope s_are_names) := ⟨rfl, rfl, rfl, by decide +kernel, rfl, by decide +kernel, by decide +kernel⟩
abbrev s_table : Stmt := top 28
theorem sc_table : FnScope ["book", "marks", "worths", "kind", "mark", "to"] ["book", "marks"] (defScope s_table) := ⟨rfl, rfl, rfl, by decide +kernel, rfl, by decide +kernel, by decide +kernel⟩
abbrev s_book_of : Stmt := top 29
theorem sc_book_of : FnScope ["by", "names", "weights", "worths", "rows", "name", "weight", "kind", "numbers", "words", "number"] ["by", "names", "weights", "worths"] (defScope s_book_of) := ⟨rfl, rfl, rfl, by decide +kernel, rfl, by decide +kernel, by decide +kernel⟩
abbrev s_l_pot : Stmt := top 31
theorem sc_l_pot : FnScope ["script", "place", "cell", "own", "small"] ["script", "place"] (defScope s_l_pot) := ⟨rfl, rfl, rfl, by decide +kernel, rfl, by decide +kernel, by decide +kernel⟩
abbrev s_l_take : Stmt := top 32
theorem sc_l_take : FnScope ["pot", "upto", "digit", "prime", "blend"] ["pot", "upto"] (defScope s_l_take) := ⟨rfl, rfl, rfl, by decide +kernel, rfl, by decide +kernel, by decide +kernel⟩
abbrev s_l_of : Stmt := top 33
theorem sc_l_of : FnScope ["pot", "some"] ["pot", "some"] (defScope s_l_of) := ⟨rfl, rfl, rfl, by decide +kernel, rfl, by decide +kernel, by decide +kernel⟩
abbrev s_l_some : Stmt := top 34
theorem sc_l_some : FnScope ["pot", "pool", "many", "left", "found", "lap"] ["pot", "pool", "many"] (defScope s_l_some) := ⟨rfl, rfl, rfl, by decide +kernel, rfl, by decide +kernel, by decide +kernel⟩
abbrev s_l_cells : Stmt := top 35
theorem sc_l_cells : FnScope ["script", "most"] ["script", "most"] (defScope s_l_cells) := ⟨rfl, rfl, rfl, by decide +kernel, rfl, by decide +kernel, by decide +kernel⟩
abbrev s_l_heard : Stmt := top 36
theorem sc_l_heard : FnScope ["call", "caught", "back", "error"] ["call"] (defScope s_l_heard) := ⟨rfl, rfl, rfl, by decide +kernel, rfl, by decide +kernel, by decide +kernel⟩
abbrev s_l_odd : Stmt := top 37
theorem sc_l_odd : FnScope ["pot", "some"] ["pot"] (defScope s_l_odd) := ⟨rfl, rfl, rfl, by decide +kernel, rfl, by decide +kernel, by decide +kernel⟩
abbrev s_l_bent : Stmt := top 38
theorem sc_l_bent : FnScope ["pot", "value", "at", "some", "sign"] ["pot", "value"] (defScope s_l_bent) := ⟨rfl, rfl, rfl, by decide +kernel, rfl, by decide +kernel, by decide +kernel⟩
abbrev s_l_bent_line : Stmt := top 39
theorem sc_l_bent_line : FnScope ["pot", "line", "words", "at", "some"] ["pot", "line"] (defScope s_l_bent_line) := ⟨rfl, rfl, rfl, by decide +kernel, rfl, by decide +kernel, by decide +kernel⟩
abbrev s_l_bent_text : Stmt := top 40
theorem sc_l_bent_text : FnScope ["pot", "text", "lines", "way", "at", "other", "first", "second", "place", "line"] ["pot", "text"] (defScope s_l_bent_text) := ⟨rfl, rfl, rfl, by decide +kernel, rfl, by decide +kernel, by decide +kernel⟩
abbrev s_l_book_names : Stmt := top 41
theorem sc_l_book_names : FnScope ["pot", "many", "at", "is_alike", "letters", "tellings", "long", "base", "found", "telling", "lap"] ["pot", "many"] (defScope s_l_book_names) := ⟨rfl, rfl, rfl, by decide +kernel, rfl, by decide +kernel, by decide +kernel⟩
abbrev s_l_book_weights : Stmt := top 42
theorem sc_l_book_weights : FnScope ["pot", "by", "many", "is_above", "way", "most", "found", "last", "lap", "weight"] ["pot", "by", "many", "is_above"] (defScope s_l_book_weights) := ⟨rfl, rfl, rfl, by decide +kernel, rfl, by decide +kernel, by decide +kernel⟩
abbrev s_l_book_table : Stmt := top 43
theorem sc_l_book_table : FnScope ["pot", "by", "many", "way", "places", "low", "high", "some", "a", "b", "row", "n"] ["pot", "by", "many"] (defScope s_l_book_table) := ⟨rfl, rfl, rfl, by decide +kernel, rfl, by decide +kernel, by decide +kernel⟩
abbrev s_l_book_twinned : Stmt := top 44
theorem sc_l_book_twinned : FnScope ["own", "one", "other", "tables", "places", "kind", "at", "a", "b"] ["own", "one", "other"] (defScope s_l_book_twinned) := ⟨rfl, rfl, rfl, by decide +kernel, rfl, by decide +kernel, by decide +kernel⟩
abbrev s_l_book_of : Stmt := top 45
theorem sc_l_book_of : FnScope ["pot", "by", "many", "kinds", "is_above", "own", "one", "other", "kind"] ["pot", "by", "many", "kinds", "is_above"] (defScope s_l_book_of) := ⟨rfl, rfl, rfl, by decide +kernel, rfl, by decide +kernel, by decide +kernel⟩
abbrev s_l_book_drawn : Stmt := top 46
theorem sc_l_book_drawn : FnScope ["pot", "bys", "manys", "kinds", "is_above", "by", "many", "names", "own", "tables", "mark", "kind"] ["pot", "bys", "manys", "kinds", "is_above"] (defScope s_l_book_drawn) := ⟨rfl, rfl, rfl, by decide +kernel, rfl, by decide +kernel, by decide +kernel⟩
abbrev s_l_book_text : Stmt := top 47
theorem sc_l_book_text : FnScope ["own", "lines", "mark", "weight", "kind", "rows", "row", "n"] ["own"] (defScope s_l_book_text) := ⟨rfl, rfl, rfl, by decide +kernel, rfl, by decide +kernel, by decide +kernel⟩
abbrev s_l_book_picked : Stmt := top 48
theorem sc_l_book_picked : FnScope ["own", "places", "names", "weights", "tables", "kind", "a", "b"] ["own", "places", "names", "weights"] (defScope s_l_book_picked) := ⟨rfl, rfl, rfl, by decide +kernel, rfl, by decide +kernel, by decide +kernel⟩
abbrev s_l_is_name : Stmt := top 49
theorem sc_l_is_name : FnScope ["value", "sign"] ["value"] (defScope s_l_is_name) := ⟨rfl, rfl, rfl, by decide +kernel, rfl, by decide +kernel, by decide +kernel⟩
abbrev s_l_are_names : Stmt := top 50
theorem sc_l_are_names : FnScope ["value", "many", "one"] ["value", "many"] (defScope s_l_are_names) := ⟨rfl, rfl, rfl, by decide +kernel, rfl, by decide +kernel, by decide +kernel⟩
abbrev s_l_is_renamed_right : Stmt := top 51
theorem sc_l_is_renamed_right : FnScope ["own", "book", "names", "caught", "back", "due"] ["own", "book", "names"] (defScope s_l_is_renamed_right) := ⟨rfl, rfl, rfl, by decide +kernel, rfl, by decide +kernel, by decide +kernel⟩
abbrev s_l_some_names : Stmt := top 52
theorem sc_l_some_names : FnScope ["pot", "own", "marks", "many", "names", "found", "at", "one", "lap"] ["pot", "own"] (defScope s_l_some_names) := ⟨rfl, rfl, rfl, by decide +kernel, rfl, by decide +kernel, by decide +kernel⟩
abbrev s_l_is_refusal : Stmt := top 53
theorem sc_l_is_refusal : FnScope ["call", "dues", "caught", "word", "value", "due", "is_it", "is_fine"] ["call", "dues"] (defScope s_l_is_refusal) := ⟨rfl, rfl, rfl, by decide +kernel, rfl, by decide +kernel, by decide +kernel⟩
abbrev s_l_is_asked_right : Stmt := top 54
theorem sc_l_is_asked_right : FnScope ["pot", "own", "book", "marks", "kinds", "some", "first", "second", "third", "kind", "one", "other", "lap"] ["pot", "own", "book"] (defScope s_l_is_asked_right) := ⟨rfl, rfl, rfl, by decide +kernel, rfl, by decide +kernel, by decide +kernel⟩
abbrev s_l_right : Stmt := top 55
theorem sc_l_right : FnScope ["pot", "own", "book", "lap", "names"] ["pot"] (defScope s_l_right) := ⟨rfl, rfl, rfl, by decide +kernel, rfl, by decide +kernel, by decide +kernel⟩
abbrev s_law : Stmt := top 56
theorem sc_law : FnScope ["script", "place"] ["script"] (defScope s_law) := ⟨rfl, rfl, rfl, by decide +kernel, rfl, by decide +kernel, by decide +kernel⟩
structure Txt (K : PySem.W.Frag) (mg : Str → Option Value) where
  f_is_integer : Addr
  fd_is_integer : FuncData
  F_is_integer : Fun K "is_integer" "is_integer" s_is_integer f_is_integer fd_is_integer
  b_is_integer : Binds K fd_is_integer ["value"] []
  g_is_integer : mg "is_integer" = some (.ref f_is_integer)
  f_is_by : Addr
  fd_is_by : FuncData
  F_is_by : Fun K "is_by" "is_by" s_is_by f_is_by fd_is_by
  b_is_by : Binds K fd_is_by ["value"] []
  g_is_by : mg "is_by" = some (.ref f_is_by)
  f_GateError_init : Addr
  fd_GateError_init : FuncData
  F_GateError_init : Fun K "__init__" "GateError.__init__" s_GateError_init f_GateError_init fd_GateError_init
  b_GateError_init : Binds K fd_GateError_init ["self", "value"] []
  f_integer_of : Addr
  fd_integer_of : FuncData
  F_integer_of : Fun K "integer_of" "integer_of" s_integer_of f_integer_of fd_integer_of
  b_integer_of : Binds K fd_integer_of ["word", "most"] []
  g_integer_of : mg "integer_of" = some (.ref f_integer_of)
  f_is_letters : Addr
  fd_is_letters : FuncData
  F_is_letters : Fun K "is_letters" "is_letters" s_is_letters f_is_letters fd_is_letters
  b_is_letters : Binds K fd_is_letters ["word", "most"] []
  g_is_letters : mg "is_letters" = some (.ref f_is_letters)
  f_is_of : Addr
  fd_is_of : FuncData
  F_is_of : Fun K "_is_of" "_is_of" s_is_of f_is_of fd_is_of
  b_is_of : Binds K fd_is_of ["word", "signs"] []
  g_is_of : mg "_is_of" = some (.ref f_is_of)
  f_Book_init : Addr
  fd_Book_init : FuncData
  F_Book_init : Fun K "__init__" "Book.__init__" s_Book_init f_Book_init fd_Book_init
  b_Book_init : Binds K fd_Book_init ["self", "text"] []
  f_Book_len : Addr
  fd_Book_len : FuncData
  F_Book_len : Fun K "__len__" "Book.__len__" s_Book_len f_Book_len fd_Book_len
  b_Book_len : Binds K fd_Book_len ["self"] []
  f_Book_contains : Addr
  fd_Book_contains : FuncData
  F_Book_contains : Fun K "__contains__" "Book.__contains__" s_Book_contains f_Book_contains fd_Book_contains
  b_Book_contains : Binds K fd_Book_contains ["self", "value"] []
  f_Book_eq : Addr
  fd_Book_eq : FuncData
  F_Book_eq : Fun K "__eq__" "Book.__eq__" s_Book_eq f_Book_eq fd_Book_eq
  b_Book_eq : Binds K fd_Book_eq ["self", "other"] []
  f_Book_weight : Addr
  fd_Book_weight : FuncData
  F_Book_weight : Fun K "weight" "Book.weight" s_Book_weight f_Book_weight fd_Book_weight
  b_Book_weight : Binds K fd_Book_weight ["self", "mark"] []
  f_Book_worth : Addr
  fd_Book_worth : FuncData
  F_Book_worth : Fun K "worth" "Book.worth" s_Book_worth f_Book_worth fd_Book_worth
  b_Book_worth : Binds K fd_Book_worth ["self", "kind", "one", "other"] []
  f_renamed : Addr
  fd_renamed : FuncData
  F_renamed : Fun K "renamed" "renamed" s_renamed f_renamed fd_renamed
  b_renamed : Binds K fd_renamed ["book", "names"] []
  g_renamed : mg "renamed" = some (.ref f_renamed)
  f_read_book : Addr
  fd_read_book : FuncData
  F_read_book : Fun K "_read_book" "_read_book" s_read_book f_read_book fd_read_book
  b_read_book : Binds K fd_read_book ["text"] []
  g_read_book : mg "_read_book" = some (.ref f_read_book)
  f_read_by : Addr
  fd_read_by : FuncData
  F_read_by : Fun K "_read_by" "_read_by" s_read_by f_read_by fd_read_by
  b_read_by : Binds K fd_read_by ["words"] []
  g_read_by : mg "_read_by" = some (.ref f_read_by)
  f_is_mark : Addr
  fd_is_mark : FuncData
  F_is_mark : Fun K "_is_mark" "_is_mark" s_is_mark f_is_mark fd_is_mark
  b_is_mark : Binds K fd_is_mark ["words", "by", "weights"] []
  g_is_mark : mg "_is_mark" = some (.ref f_is_mark)
  f_is_kind : Addr
  fd_is_kind : FuncData
  F_is_kind : Fun K "_is_kind" "_is_kind" s_is_kind f_is_kind fd_is_kind
  b_is_kind : Binds K fd_is_kind ["words", "by", "worths", "marks"] []
  g_is_kind : mg "_is_kind" = some (.ref f_is_kind)
  f_is_number : Addr
  fd_is_number : FuncData
  F_is_number : Fun K "_is_number" "_is_number" s_is_number f_is_number fd_is_number
  b_is_number : Binds K fd_is_number ["word", "by"] []
  g_is_number : mg "_is_number" = some (.ref f_is_number)
  f_are_names : Addr
  fd_are_names : FuncData
  F_are_names : Fun K "_are_names" "_are_names" s_are_names f_are_names fd_are_names
  b_are_names : Binds K fd_are_names ["value", "many"] []
  g_are_names : mg "_are_names" = some (.ref f_are_names)
  f_table : Addr
  fd_table : FuncData
  F_table : Fun K "_table" "_table" s_table f_table fd_table
  b_table : Binds K fd_table ["book", "marks"] []
  g_table : mg "_table" = some (.ref f_table)
  f_book_of : Addr
  fd_book_of : FuncData
  F_book_of : Fun K "_book_of" "_book_of" s_book_of f_book_of fd_book_of
  b_book_of : Binds K fd_book_of ["by", "names", "weights", "worths"] []
  g_book_of : mg "_book_of" = some (.ref f_book_of)
  f_l_pot : Addr
  fd_l_pot : FuncData
  F_l_pot : Fun K "_law_pot" "_law_pot" s_l_pot f_l_pot fd_l_pot
  b_l_pot : Binds K fd_l_pot ["script", "place"] []
  g_l_pot : mg "_law_pot" = some (.ref f_l_pot)
  f_l_take : Addr
  fd_l_take : FuncData
  F_l_take : Fun K "_law_take" "_law_take" s_l_take f_l_take fd_l_take
  b_l_take : Binds K fd_l_take ["pot", "upto"] []
  g_l_take : mg "_law_take" = some (.ref f_l_take)
  f_l_of : Addr
  fd_l_of : FuncData
  F_l_of : Fun K "_law_of" "_law_of" s_l_of f_l_of fd_l_of
  b_l_of : Binds K fd_l_of ["pot", "some"] []
  g_l_of : mg "_law_of" = some (.ref f_l_of)
  f_l_some : Addr
  fd_l_some : FuncData
  F_l_some : Fun K "_law_some" "_law_some" s_l_some f_l_some fd_l_some
  b_l_some : Binds K fd_l_some ["pot", "pool", "many"] []
  g_l_some : mg "_law_some" = some (.ref f_l_some)
  f_l_cells : Addr
  fd_l_cells : FuncData
  F_l_cells : Fun K "_law_cells" "_law_cells" s_l_cells f_l_cells fd_l_cells
  b_l_cells : Binds K fd_l_cells ["script", "most"] []
  g_l_cells : mg "_law_cells" = some (.ref f_l_cells)
  f_l_heard : Addr
  fd_l_heard : FuncData
  F_l_heard : Fun K "_law_heard" "_law_heard" s_l_heard f_l_heard fd_l_heard
  b_l_heard : Binds K fd_l_heard ["call"] []
  g_l_heard : mg "_law_heard" = some (.ref f_l_heard)
  f_l_odd : Addr
  fd_l_odd : FuncData
  F_l_odd : Fun K "_law_odd" "_law_odd" s_l_odd f_l_odd fd_l_odd
  b_l_odd : Binds K fd_l_odd ["pot"] []
  g_l_odd : mg "_law_odd" = some (.ref f_l_odd)
  f_l_bent : Addr
  fd_l_bent : FuncData
  F_l_bent : Fun K "_law_bent" "_law_bent" s_l_bent f_l_bent fd_l_bent
  b_l_bent : Binds K fd_l_bent ["pot", "value"] []
  g_l_bent : mg "_law_bent" = some (.ref f_l_bent)
  f_l_bent_line : Addr
  fd_l_bent_line : FuncData
  F_l_bent_line : Fun K "_law_bent_line" "_law_bent_line" s_l_bent_line f_l_bent_line fd_l_bent_line
  b_l_bent_line : Binds K fd_l_bent_line ["pot", "line"] []
  g_l_bent_line : mg "_law_bent_line" = some (.ref f_l_bent_line)
  f_l_bent_text : Addr
  fd_l_bent_text : FuncData
  F_l_bent_text : Fun K "_law_bent_text" "_law_bent_text" s_l_bent_text f_l_bent_text fd_l_bent_text
  b_l_bent_text : Binds K fd_l_bent_text ["pot", "text"] []
  g_l_bent_text : mg "_law_bent_text" = some (.ref f_l_bent_text)
  f_l_book_names : Addr
  fd_l_book_names : FuncData
  F_l_book_names : Fun K "_law_book_names" "_law_book_names" s_l_book_names f_l_book_names fd_l_book_names
  b_l_book_names : Binds K fd_l_book_names ["pot", "many"] []
  g_l_book_names : mg "_law_book_names" = some (.ref f_l_book_names)
  f_l_book_weights : Addr
  fd_l_book_weights : FuncData
  F_l_book_weights : Fun K "_law_book_weights" "_law_book_weights" s_l_book_weights f_l_book_weights fd_l_book_weights
  b_l_book_weights : Binds K fd_l_book_weights ["pot", "by", "many", "is_above"] []
  g_l_book_weights : mg "_law_book_weights" = some (.ref f_l_book_weights)
  f_l_book_table : Addr
  fd_l_book_table : FuncData
  F_l_book_table : Fun K "_law_book_table" "_law_book_table" s_l_book_table f_l_book_table fd_l_book_table
  b_l_book_table : Binds K fd_l_book_table ["pot", "by", "many"] []
  g_l_book_table : mg "_law_book_table" = some (.ref f_l_book_table)
  f_l_book_twinned : Addr
  fd_l_book_twinned : FuncData
  F_l_book_twinned : Fun K "_law_book_twinned" "_law_book_twinned" s_l_book_twinned f_l_book_twinned fd_l_book_twinned
  b_l_book_twinned : Binds K fd_l_book_twinned ["own", "one", "other"] []
  g_l_book_twinned : mg "_law_book_twinned" = some (.ref f_l_book_twinned)
  f_l_book_of : Addr
  fd_l_book_of : FuncData
  F_l_book_of : Fun K "_law_book_of" "_law_book_of" s_l_book_of f_l_book_of fd_l_book_of
  b_l_book_of : Binds K fd_l_book_of ["pot", "by", "many", "kinds", "is_above"] []
  g_l_book_of : mg "_law_book_of" = some (.ref f_l_book_of)
  f_l_book_drawn : Addr
  fd_l_book_drawn : FuncData
  F_l_book_drawn : Fun K "_law_book_drawn" "_law_book_drawn" s_l_book_drawn f_l_book_drawn fd_l_book_drawn
  b_l_book_drawn : Binds K fd_l_book_drawn ["pot", "bys", "manys", "kinds", "is_above"] []
  g_l_book_drawn : mg "_law_book_drawn" = some (.ref f_l_book_drawn)
  f_l_book_text : Addr
  fd_l_book_text : FuncData
  F_l_book_text : Fun K "_law_book_text" "_law_book_text" s_l_book_text f_l_book_text fd_l_book_text
  b_l_book_text : Binds K fd_l_book_text ["own"] []
  g_l_book_text : mg "_law_book_text" = some (.ref f_l_book_text)
  f_l_book_picked : Addr
  fd_l_book_picked : FuncData
  F_l_book_picked : Fun K "_law_book_picked" "_law_book_picked" s_l_book_picked f_l_book_picked fd_l_book_picked
  b_l_book_picked : Binds K fd_l_book_picked ["own", "places", "names", "weights"] []
  g_l_book_picked : mg "_law_book_picked" = some (.ref f_l_book_picked)
  f_l_is_name : Addr
  fd_l_is_name : FuncData
  F_l_is_name : Fun K "_law_is_name" "_law_is_name" s_l_is_name f_l_is_name fd_l_is_name
  b_l_is_name : Binds K fd_l_is_name ["value"] []
  g_l_is_name : mg "_law_is_name" = some (.ref f_l_is_name)
  f_l_are_names : Addr
  fd_l_are_names : FuncData
  F_l_are_names : Fun K "_law_are_names" "_law_are_names" s_l_are_names f_l_are_names fd_l_are_names
  b_l_are_names : Binds K fd_l_are_names ["value", "many"] []
  g_l_are_names : mg "_law_are_names" = some (.ref f_l_are_names)
  f_l_is_renamed_right : Addr
  fd_l_is_renamed_right : FuncData
  F_l_is_renamed_right : Fun K "_law_is_renamed_right" "_law_is_renamed_right" s_l_is_renamed_right f_l_is_renamed_right fd_l_is_renamed_right
  b_l_is_renamed_right : Binds K fd_l_is_renamed_right ["own", "book", "names"] []
  g_l_is_renamed_right : mg "_law_is_renamed_right" = some (.ref f_l_is_renamed_right)
  f_l_some_names : Addr
  fd_l_some_names : FuncData
  F_l_some_names : Fun K "_law_some_names" "_law_some_names" s_l_some_names f_l_some_names fd_l_some_names
  b_l_some_names : Binds K fd_l_some_names ["pot", "own"] []
  g_l_some_names : mg "_law_some_names" = some (.ref f_l_some_names)
  f_l_is_refusal : Addr
  fd_l_is_refusal : FuncData
  F_l_is_refusal : Fun K "_law_is_refusal" "_law_is_refusal" s_l_is_refusal f_l_is_refusal fd_l_is_refusal
  b_l_is_refusal : Binds K fd_l_is_refusal ["call", "dues"] []
  g_l_is_refusal : mg "_law_is_refusal" = some (.ref f_l_is_refusal)
  f_l_is_asked_right : Addr
  fd_l_is_asked_right : FuncData
  F_l_is_asked_right : Fun K "_law_is_asked_right" "_law_is_asked_right" s_l_is_asked_right f_l_is_asked_right fd_l_is_asked_right
  b_l_is_asked_right : Binds K fd_l_is_asked_right ["pot", "own", "book"] []
  g_l_is_asked_right : mg "_law_is_asked_right" = some (.ref f_l_is_asked_right)
  f_l_right : Addr
  fd_l_right : FuncData
  F_l_right : Fun K "_law_right" "_law_right" s_l_right f_l_right fd_l_right
  b_l_right : Binds K fd_l_right ["pot"] []
  g_l_right : mg "_law_right" = some (.ref f_l_right)
  f_law : Addr
  fd_law : FuncData
  F_law : Fun K "law" "law" s_law f_law fd_law
  b_law : Binds K fd_law ["script"] []
  g_law : mg "law" = some (.ref f_law)
  n_ValueError : mg "ValueError" = none
  n_abs : mg "abs" = none
  n_all : mg "all" = none
  n_bool : mg "bool" = none
  n_dict : mg "dict" = none
  n_enumerate : mg "enumerate" = none
  n_int : mg "int" = none
  n_isinstance : mg "isinstance" = none
  n_len : mg "len" = none
  n_list : mg "list" = none
  n_max : mg "max" = none
  n_min : mg "min" = none
  n_range : mg "range" = none
  n_repr : mg "repr" = none
  n_set : mg "set" = none
  n_str : mg "str" = none
  n_sum : mg "sum" = none
  n_tuple : mg "tuple" = none
  n_zip : mg "zip" = none
  m_LETTERS : ∃ u, mg "LETTERS" = some u ∧ RelV (.str "abcdefghijklmnopqrstuvwxyz") u
  m_FIGURES : ∃ u, mg "FIGURES" = some u ∧ RelV (.str "0123456789") u
  m_GREATEST : ∃ u, mg "GREATEST" = some u ∧ RelV (.int 1000000000000) u
  m_MOST_MARKS : ∃ u, mg "MOST_MARKS" = some u ∧ RelV (.int 4) u
  m_MOST_KINDS : ∃ u, mg "MOST_KINDS" = some u ∧ RelV (.int 3) u
  a_PRIMES : Addr
  m_PRIMES : ∃ u, mg "PRIMES" = some u ∧ RelV (.ref a_PRIMES) u
  sq_PRIMES : ∀ H, SqT K H a_PRIMES ([2, 3, 5, 7, 11, 13, 17, 19, 23, 29, 31, 37, 41, 43, 47, 53, 59, 61, 67, 71, 73, 79, 83, 89, 97].map V.int)
  c_BadBook : Addr
  g_BadBook : mg "BadBook" = some (.ref c_BadBook)
  c_GateError : Addr
  g_GateError : mg "GateError" = some (.ref c_GateError)
  c_Book : Addr
  g_Book : mg "Book" = some (.ref c_Book)
  c_NoMark : Addr
  g_NoMark : mg "NoMark" = some (.ref c_NoMark)
  c_NoKind : Addr
  g_NoKind : mg "NoKind" = some (.ref c_NoKind)
  c_BadNames : Addr
  g_BadNames : mg "BadNames" = some (.ref c_BadNames)
end OG
set_option Elab.async false
set_option linter.all false
set_option maxRecDepth 100000
set_option maxHeartbeats 4000000
namespace OG
open PySem PySem.Spec PyProof.Rows L2
section
variable {X : Cx}
def CPowW (i j : Int) : Prop := 0 ≤ j ∧ (Builtin.Int.intBits i : Int) * j ≤ 2 ^ 27
theorem op_powW : OpR X (binaryOp .Pow) (rI CPowW fun i j => .int (i ^ j.toNat)) := opI fun _ _ _ _ _ _ _ hc q => pow_int hc.1 hc.2 q
theorem pow_c {i j : Int} (h : (decide (0 ≤ j) && decide ((Builtin.Int.intBits i : Int) * j ≤ 2 ^ 27)) = true) : CPowW i j := by
  rw [Bool.and_eq_true, decide_eq_true_eq, decide_eq_true_eq] at h
  exact h
theorem pow_64 {i j : Int} (ha : i.natAbs < 2 ^ 64) (h0 : 0 ≤ j) (hn : j ≤ 1000000) : CPowW i j := ⟨h0, bits_mul_le ha h0 hn⟩
def repS (x : Str) (n : Int) : Str := if n < 1 then Str.empty else if (n == 1 || x.length == 0) = true then x else ⟨(List.replicate n.toNat x.cps).foldl (· ++ ·) #[]⟩
theorem op_mulS : OpR X (binaryOp .Mult) (fun x y H Q => ∃ (z : Str) (n : Int), x = .str z ∧ y = .int n ∧ 0 ≤ n ∧ n ≤ 100000 ∧ z.length ≤ 100 ∧ Q (.str (repS z n)) H) := by
  intro pins s σ H x y v u Q I rx ry h
  obtain ⟨z, n, rfl, rfl, h0, h1, h2, q⟩ := h
  obtain ⟨t, rfl⟩ := rx
  obtain ⟨t', rfl⟩ := ry
  have htl : Builtin.Str.tooLong (z.length * n.toNat) = false := by
    have e3 : z.length * n.toNat ≤ 100 * 100000 := Nat.mul_le_mul h2 (by omega)
    have e4 : z.length * n.toNat ≤ sizeLine := Nat.le_trans e3 (by decide)
    show decide (z.length * n.toNat > sizeLine) = false
    exact decide_eq_false (by omega)
  refine PySem.P.mul_str (by simp only [Bool.or_eq_false_iff, decide_eq_false_iff_not]; omega) (fun hn _ => ?_) (fun hn _ => ?_) ?_
  · have e1 : (2 : Int) ^ 63 - 1 ≥ 100 * n := by omega
    have e2 : (100 : Int) ≤ (2 ^ 63 - 1) / n := Int.le_ediv_of_mul_le (by omega) e1
    omega
  · exact htl
  · unfold repS at q
    by_cases c1 : n < 1
    · rw [if_pos c1] at q ⊢
      exact ⟨by decide, .str Str.empty, H, I.tok _, ⟨_, rfl⟩, q⟩
    · rw [if_neg c1] at q ⊢
      by_cases c2 : (n == 1 || z.length == 0) = true
      · rw [if_pos c2] at q ⊢
        exact ⟨.str z, H, I, ⟨_, rfl⟩, q⟩
      · rw [if_neg c2] at q ⊢
        exact ⟨fits_reps htl, .str _, H, I.tok _, ⟨_, rfl⟩, q⟩
end
/-! heaps -/
/-- all but p stays -/
def Kp (p : Addr) (H H' : Hp) : Prop := ∀ b o, b ≠ p → H b = some o → H' b = some o
theorem Kp.refl (p : Addr) (H : Hp) : Kp p H H := fun _ _ _ h => h
theorem Kp.trans {p : Addr} {H H1 H2 : Hp} (a : Kp p H H1) (b : Kp p H1 H2) : Kp p H H2 := fun c o n h => b c o n (a c o n h)
theorem Same.kp {p : Addr} {H H' : Hp} (s : Same H H') : Kp p H H' := fun b o _ h => s b o h
theorem same_new {H : Hp} {p : Addr} {o : HO} (h : H p = none) : Same H (upd H p o) := fun b x e => by
  rw [upd_ne (ne_of_none e h)]
  exact e
theorem kp_self {p : Addr} {H : Hp} {o : HO} : Kp p H (upd H p o) := fun b x n e => by
  rw [upd_ne n]
  exact e
/-- the pot at p, at least k takes left -/
def Pot (k : Nat) (H : Hp) (p : Addr) : Prop := ∃ a b c : Int, H p = some (.lst [.int a, .int b, .int c]) ∧ 0 ≤ a ∧ a < 2 ^ 1000 ∧ 0 ≤ b ∧ b < 2 ^ 61 ∧ 0 ≤ c ∧ c + k ≤ 1000000
theorem Pot.mono {k j : Nat} {H : Hp} {p : Addr} (h : Pot k H p) (e : j ≤ k) : Pot j H p := by
  obtain ⟨a, b, c, h1, h2, h3, h4, h5, h6, h7⟩ := h
  exact ⟨a, b, c, h1, h2, h3, h4, h5, h6, by omega⟩
theorem Pot.same {k : Nat} {H H' : Hp} {p : Addr} (h : Pot k H p) (s : Same H H') : Pot k H' p := by
  obtain ⟨a, b, c, h1, h2⟩ := h
  exact ⟨a, b, c, s _ _ h1, h2⟩
theorem Pot.ex {k : Nat} {H : Hp} {p : Addr} (h : Pot k H p) : ∃ o, H p = some o := by
  obtain ⟨a, b, c, h1, _⟩ := h
  exact ⟨_, h1⟩
/-- a draw's way: the pot has k left, all else stands -/
def Dr (p : Addr) (k : Nat) (H H' : Hp) : Prop := Kp p H H' ∧ Pot k H' p
end OG
set_option Elab.async false
set_option linter.all false
set_option maxRecDepth 100000
set_option maxHeartbeats 4000000
namespace OG
open PySem PySem.Spec PyProof.Rows L2
section
variable {P : Program} {w : World} {K : PySem.W.Frag} {mg : Str → Option Value} {base : Heap}
def spTake : Sp := fun vs H Q _ => ∃ (p : Addr) (u : Int) (k : Nat), vs = [.ref p, .int u] ∧ Pot (k + 1) H p ∧ 0 < u ∧ u < 2 ^ 60 ∧
  ∀ (r : Int) (H' : Hp), 0 ≤ r → r < u → Dr p k H H' → Q (.int r) H'
theorem rix {H : Hp} {p : Addr} {xs : List V} {i : Nat} {v : V} {Q : VK} (h : H p = some (.lst xs)) (hi : xs[i]? = some v) (q : Q v H) : rIxL K (.ref p) (.int (i : Int)) H Q :=
  ⟨p, xs, _, v, rfl, rfl, SqL.of h, atI_nat hi, q⟩
theorem pow3 {x : Int} (h : x.natAbs < 2 ^ 64) : CPowW x 3 := pow_64 h (by decide) (by decide)
theorem ok_l_take (T : Txt K mg) : FnOk P w K mg base CX0 1 T.f_l_take T.fd_l_take ["pot", "upto"] (spTake) := by
  refine T.F_l_take.ok sc_l_take (fun vs H Q E h => ?_) (fun cdv A outer s H vs Q E hr h => ?_)
  · obtain ⟨p, u, k, rfl, _⟩ := h
    rfl
  · obtain ⟨p, u, k, rfl, ⟨a, b, c, hp, a0, a1, b0, b1, c0, c1⟩, u0, u1, q⟩ := h
    refine ⟨_, (pss_cons (ps_if (pt_cmpR op_gt (pe_ix ix_list (pv 0) pe_int (fun _ _ => rfl)) pe_int (nomark _)) (pss_cons (ps_set (i := 2) sc_l_take.nd rfl (Or.inl rfl) (pe_op op_mod (pe_callTy call_int1 (by rfl) T.n_int (by decide +kernel) (pa_cons (pe_ix ix_list (pv 0) pe_int (fun _ _ => rfl)) pa_nil)) (pv 1)))
  (pss_cons (ps_asg (pe_op op_fdivW (pe_ix ix_list (pv 0) pe_int (fun _ _ => rfl)) (pv 1)) (pg_sub (pv 0) pe_int set_list))
  (pss_one (ps_ret (pv 2))))) pss_nil)
  (pss_cons (ps_asg (pe_op op_add (pe_ix ix_list (pv 0) pe_int (fun _ _ => rfl)) pe_int) (pg_sub (pv 0) pe_int set_list))
  (pss_cons (ps_set (i := 3) sc_l_take.nd rfl (Or.inl rfl) (pe_ix ix_list (pe_lst (pa_cons pe_int (pa_cons pe_int (pa_cons pe_int (pa_cons pe_int (pa_cons pe_int pa_nil)))))) (pe_op op_mod (pe_callTy call_int1 (by rfl) T.n_int (by decide +kernel) (pa_cons (pe_ix ix_list (pv 0) pe_int (fun _ _ => rfl)) pa_nil)) pe_int) (fun _ _ => rfl)))
  (pss_cons (ps_set (i := 4) sc_l_take.nd rfl (Or.inl rfl) (pe_op op_mod (pe_callTy call_int1 (by rfl) T.n_int (by decide +kernel) (pa_cons (pe_op op_powW (pe_callTy call_int1 (by rfl) T.n_int (by decide +kernel) (pa_cons (pe_op op_add (pe_op op_add (pe_ix ix_list (pv 0) pe_int (fun _ _ => rfl)) (pe_op op_mulW (pe_op op_mulW pe_int (pe_ix ix_list (pv 0) pe_int (fun _ _ => rfl))) (pe_ix ix_list (pv 0) pe_int (fun _ _ => rfl)))) pe_int) pa_nil)) pe_int) pa_nil)) (pv 3)))
  (pss_cons (ps_set (i := 4) sc_l_take.nd rfl (Or.inl rfl) (pe_op op_mod (pe_callTy call_int1 (by rfl) T.n_int (by decide +kernel) (pa_cons (pe_op op_mulW (pv 4) (pe_op op_add (pe_op op_mod (pe_callTy call_int1 (by rfl) T.n_int (by decide +kernel) (pa_cons (pv 4) pa_nil)) pe_int) (pe_op op_mulW pe_int (pe_ix ix_list (pv 0) pe_int (fun _ _ => rfl))))) pa_nil)) pe_int))
  (pss_one (ps_ret (pe_op op_mod (pe_callTy call_int1 (by rfl) T.n_int (by decide +kernel) (pa_cons (pe_op op_fdivW (pv 4) pe_int) pa_nil)) (pv 1))))))))), ?_⟩
    refine ⟨.ref p, rfl, p, _, 0, _, rfl, rfl, SqL.of hp, rfl, ?_⟩
    refine ⟨a, 0, rfl, rfl, _, rfl, ?_⟩
    refine ite2 (fun ha => ?_) (fun ha => ?_)
    · have ha : 0 < a := of_decide_eq_true ha
      refine ⟨.ref p, rfl, p, _, 0, _, rfl, rfl, SqL.of hp, rfl, ?_⟩
      refine .inl ⟨a, rfl, ?_⟩
      refine ⟨.int u, rfl, a, u, rfl, rfl, u0, ?_⟩
      refine ⟨.ref p, rfl, p, _, 0, _, rfl, rfl, SqL.of hp, rfl, ?_⟩
      refine ⟨.int u, rfl, a, u, rfl, rfl, wide_div (b := 60) u0 (by omega) (by decide) (by decide), ?_⟩
      refine ⟨.ref p, rfl, p, _, 0, 0, rfl, rfl, hp, rfl, ?_⟩
      refine ⟨_, rfl, ?_⟩
      refine q _ _ (Int.emod_nonneg _ (by omega)) (Int.emod_lt_of_pos _ u0) ⟨kp_self, a / u, b, c, upd_same, Int.ediv_nonneg a0 (by omega), ?_, b0, b1, c0, by omega⟩
      exact Int.lt_of_le_of_lt (Int.ediv_le_self _ a0) a1
    · refine ⟨.ref p, rfl, p, _, 2, _, rfl, rfl, SqL.of hp, rfl, ?_⟩
      refine ⟨c, 1, rfl, rfl, ?_⟩
      refine ⟨.ref p, rfl, p, _, 2, 2, rfl, rfl, hp, rfl, ?_⟩
      refine ⟨by decide, fun l hl => ?_⟩
      have npl : p ≠ l := fun e => by
        rw [← e, upd_same] at hl
        cases hl
      have hp1 : (upd (upd H p (.lst [.int a, .int b, .int (c + 1)])) l (.lst [.int 2147483647, .int 2147483629, .int 2147483587, .int 2147483579, .int 2147483563])) p = some (.lst [.int a, .int b, .int (c + 1)]) := by
        rw [upd_ne npl, upd_same]
      refine ⟨.ref p, rfl, p, _, 2, _, rfl, rfl, SqL.of hp1, rfl, ?_⟩
      refine .inl ⟨c + 1, rfl, ?_⟩
      refine ⟨c + 1, 5, rfl, rfl, (by show (0 : Int) < 5; decide), ?_⟩
      have h5 : ∃ (m : Nat) (pr : Int), (c + 1) % 5 = (m : Int) ∧ ([V.int 2147483647, .int 2147483629, .int 2147483587, .int 2147483579, .int 2147483563])[m]? = some (.int pr) ∧ 0 < pr ∧ pr < 2 ^ 31 := by
        have e0 := Int.emod_nonneg (c + 1) (show (5 : Int) ≠ 0 by decide)
        have e1 := Int.emod_lt_of_pos (c + 1) (show (0 : Int) < 5 by decide)
        rcases (show (c + 1) % 5 = 0 ∨ (c + 1) % 5 = 1 ∨ (c + 1) % 5 = 2 ∨ (c + 1) % 5 = 3 ∨ (c + 1) % 5 = 4 by omega) with e | e | e | e | e
        · exact ⟨0, _, e, rfl, by decide, by decide⟩
        · exact ⟨1, _, e, rfl, by decide, by decide⟩
        · exact ⟨2, _, e, rfl, by decide, by decide⟩
        · exact ⟨3, _, e, rfl, by decide, by decide⟩
        · exact ⟨4, _, e, rfl, by decide, by decide⟩
      obtain ⟨m, pr, em, hm, pr0, pr1⟩ := h5
      refine ⟨l, _, (m : Int), _, rfl, congrArg V.int em, SqL.of upd_same, atI_nat hm, ?_⟩
      refine ⟨.ref p, rfl, p, _, 1, _, rfl, rfl, SqL.of hp1, rfl, ?_⟩
      have hc2 : (c + 1) * (c + 1) ≤ 1000000 * 1000000 := Int.mul_le_mul (by omega) (by omega) (by omega) (by decide)
      have hc3 : 0 ≤ (c + 1) * (c + 1) := Int.mul_nonneg (by omega) (by omega)
      refine ⟨.ref p, rfl, p, _, 2, _, rfl, rfl, SqL.of hp1, rfl, ?_⟩
      refine ⟨_, _, rfl, rfl, wide_mul (a := 30) (b := 30) (by decide) (by omega) (by decide) (by decide) (by decide), ?_⟩
      refine ⟨.ref p, rfl, p, _, 2, _, rfl, rfl, SqL.of hp1, rfl, ?_⟩
      refine ⟨_, _, rfl, rfl, wide_mul (a := 60) (b := 30) (by omega) (by omega) (by decide) (by decide) (by decide), ?_⟩
      refine ⟨_, _, rfl, rfl, ?_⟩
      refine ⟨_, _, rfl, rfl, ?_⟩
      refine .inl ⟨_, rfl, ?_⟩
      refine ⟨_, _, rfl, rfl, pow3 ?_, ?_⟩
      · rw [Int.mul_assoc]
        omega
      refine .inl ⟨_, rfl, ?_⟩
      refine ⟨_, rfl, _, _, rfl, rfl, pr0, ?_⟩
      have xb : ∀ y : Int, (y % pr).natAbs < 2 ^ 60 := fun y => by
        have z1 := Int.emod_nonneg y (show pr ≠ 0 by omega)
        have z2 := Int.emod_lt_of_pos y pr0
        omega
      refine ⟨_, rfl, _, rfl, .inl ⟨_, rfl, ?_⟩⟩
      refine ⟨_, 10346, rfl, rfl, (by show (0 : Int) < 10346; decide), ?_⟩
      refine ⟨.ref p, rfl, p, _, 2, _, rfl, rfl, SqL.of hp1, rfl, ?_⟩
      refine ⟨_, _, rfl, rfl, wide_mul (a := 30) (b := 30) (by decide) (by omega) (by decide) (by decide) (by decide), ?_⟩
      refine ⟨_, _, rfl, rfl, ?_⟩
      refine ⟨_, _, rfl, rfl, wide_mul (a := 60) (b := 90) (xb _) (by omega) (by decide) (by decide) (by decide), ?_⟩
      refine .inl ⟨_, rfl, ?_⟩
      refine ⟨_, 2305843009213693907, rfl, rfl, (by show (0 : Int) < 2305843009213693907; decide), ?_⟩
      refine ⟨_, rfl, ?_⟩
      refine ⟨_, _, rfl, rfl, wide_div (b := 60) (by decide) (by decide) (by decide) (by decide), ?_⟩
      refine .inl ⟨_, rfl, ?_⟩
      refine ⟨.int u, rfl, _, _, rfl, rfl, u0, ?_⟩
      refine q _ _ (Int.emod_nonneg _ (by omega)) (Int.emod_lt_of_pos _ u0) ⟨?_, a, b, c + 1, hp1, a0, a1, b0, b1, by omega, by omega⟩
      intro z o nz hz
      have nzl : z ≠ l := fun e => by
        rw [← e, upd_ne nz, hz] at hl
        cases hl
      rw [upd_ne nzl, upd_ne nz]
      exact hz
end
end OG
set_option Elab.async false
set_option linter.all false
set_option maxRecDepth 100000
set_option maxHeartbeats 4000000
namespace OG
open PySem PySem.Spec PyProof.Rows L2
theorem Kp.seq {K : PySem.W.Frag} {p : Addr} {H H' : Hp} {a : Addr} {xs : List V} (e : Kp p H H') (n : a ≠ p) (h : SqL K H a xs) : SqL K H' a xs := by
  rcases h with (h | ⟨o, h⟩) | h
  · exact .inl (.inl (e _ _ n h))
  · exact .inl (.inr ⟨o, e _ _ n h⟩)
  · exact .inr h
theorem Kp.seqT {K : PySem.W.Frag} {p : Addr} {H H' : Hp} {a : Addr} {xs : List V} (e : Kp p H H') (n : a ≠ p) (h : SqT K H a xs) : SqT K H' a xs := by
  rcases h with (h | ⟨o, h⟩) | h
  · exact .inl (.inl (e _ _ n h))
  · exact .inl (.inr ⟨o, e _ _ n h⟩)
  · exact .inr h
theorem Pot.ne {k : Nat} {H : Hp} {p l : Addr} (h : Pot k H p) (n : H l = none) : l ≠ p := fun e => by
  obtain ⟨o, ho⟩ := h.ex
  rw [e, ho] at n
  cases n
theorem Pot.neT {k : Nat} {H : Hp} {p l : Addr} {xs : List V} (h : Pot k H p) (n : H l = some (.tup xs)) : l ≠ p := fun e => by
  obtain ⟨a, b, c, ho, _⟩ := h
  rw [e, ho] at n
  cases n
theorem Pot.neD {k : Nat} {H : Hp} {p l : Addr} {xs : List (Key × V)} (h : Pot k H p) (n : H l = some (.dK xs)) : l ≠ p := fun e => by
  obtain ⟨a, b, c, ho, _⟩ := h
  rw [e, ho] at n
  cases n
theorem Dr.start {k j : Nat} {H : Hp} {p : Addr} (h : Pot k H p) (e : j ≤ k) : Dr p j H H := ⟨Kp.refl _ _, h.mono e⟩
theorem Dr.trans {k j : Nat} {H H1 H2 : Hp} {p : Addr} (a : Dr p k H H1) (b : Dr p j H1 H2) : Dr p j H H2 := ⟨a.1.trans b.1, b.2⟩
theorem Dr.mono {k j : Nat} {H H1 : Hp} {p : Addr} (a : Dr p k H H1) (e : j ≤ k) : Dr p j H H1 := ⟨a.1, a.2.mono e⟩
theorem Dr.fr {k : Nat} {H H' : Hp} {p l : Addr} (d : Dr p k H H') (n : H' l = none) : H l = none := by
  cases e : H l with
  | none => rfl
  | some o =>
    rw [d.1 _ _ (d.2.ne n) e] at n
    cases n
theorem Dr.new {k : Nat} {H H1 : Hp} {p l : Addr} {o : HO} (d : Dr p k H H1) (n : H1 l = none) : Dr p k H (upd H1 l o) :=
  ⟨d.1.trans (Same.kp (same_new n)), d.2.same (same_new n)⟩
theorem Dr.mut {k : Nat} {H H1 : Hp} {p l : Addr} {o : HO} (d : Dr p k H H1) (n : H l = none) (e : l ≠ p) : Dr p k H (upd H1 l o) := by
  refine ⟨fun b x q h => ?_, ?_⟩
  · rw [upd_ne (ne_of_none h n)]
    exact d.1 b x q h
  · obtain ⟨a, b, c, h1, h2⟩ := d.2
    refine ⟨a, b, c, ?_, h2⟩
    rw [upd_ne e.symm]
    exact h1
theorem Dr.st {k : Nat} {H H1 : Hp} {p b : Addr} {o : HO} (d : Dr p k H H1) (n : b ≠ p) (h : H b = some o) : H1 b = some o := d.1 _ _ n h
section
variable {P : Program} {w : World} {K : PySem.W.Frag} {mg : Str → Option Value} {base : Heap}
def spOf (K : PySem.W.Frag) : Sp := fun vs H Q _ => ∃ (p l : Addr) (xs : List V) (k : Nat), vs = [.ref p, .ref l] ∧ Pot (k + 1) H p ∧ SqL K H l xs ∧ l ≠ p ∧ 0 < xs.length ∧ xs.length < 100000 ∧
  ∀ (i : Nat) (x : V) (H' : Hp), xs[i]? = some x → Dr p k H H' → Q x H'
theorem ok_l_of (T : Txt K mg) : FnOk P w K mg base CX0 2 T.f_l_of T.fd_l_of ["pot", "some"] (spOf K) := by
  refine T.F_l_of.ok sc_l_of (fun vs H Q E h => ?_) (fun cdv A outer s H vs Q E hr h => ?_)
  · obtain ⟨p, l, xs, k, rfl, _⟩ := h
    rfl
  · obtain ⟨p, l, xs, k, rfl, hP, hL, nlp, l0, l1, q⟩ := h
    refine ⟨_, (pss_one (ps_ret (pe_ix ix_list (pv 1) (pe_call (ok_l_take T) (hr.mono (by decide)) (by rfl) T.g_l_take T.F_l_take.kp T.b_l_take .nil pass0 (pa_cons (pv 0) (pa_cons (pe_callB call_len_seq (by rfl) T.n_len PySem.boot_len (pa_cons (pv 1) pa_nil)) pa_nil))) (fun _ _ => rfl)))), ?_⟩
    refine ⟨.ref l, rfl, .ref p, rfl, .ref l, rfl, l, _, rfl, .inl hL, ?_⟩
    refine ⟨p, xs.length, k, rfl, hP, by omega, by omega, fun r H' r0 r1 d => ?_⟩
    have hr1 : r.toNat < xs.length := by omega
    have hx : xs[r.toNat]? = some (xs[r.toNat]) := List.getElem?_eq_getElem hr1
    refine ⟨l, xs, (r.toNat : Int), _, rfl, congrArg V.int (by omega), d.1.seq nlp hL, atI_nat hx, q _ _ _ hx d⟩
theorem seq_nat {n k : Nat} (h : k < n) : seqIndex? (k : Int) n = some k := by
  have e0 : ¬ ((k : Int) < 0) := by omega
  have e1 : (k : Int) < (n : Int) := by omega
  have e2 : (0 : Int) ≤ (k : Int) := by omega
  simp only [seqIndex?, if_neg e0, e1, e2, decide_true, Bool.and_self, if_true, Int.toNat_natCast]
def spSome (K : PySem.W.Frag) : Sp := fun vs H Q _ => ∃ (p l : Addr) (xs : List V) (m k : Nat), vs = [.ref p, .ref l, .int (m : Int)] ∧ Pot (k + m) H p ∧ SqL K H l xs ∧ l ≠ p ∧ m ≤ xs.length ∧ xs.length < 1000 ∧
  ∀ (q : Addr) (ys zs : List V) (H' : Hp), ys.length = m → (ys ++ zs).Perm xs → Dr p k H H' → H q = none → q ≠ p → H' q = some (.lst ys) → Q (.ref q) H'
theorem perm_pop {α : Type} : ∀ {ls : List α} {k : Nat} {y : α}, ls[k]? = some y → (y :: ls.eraseIdx k).Perm ls
  | [], k, y, h => by simp at h
  | a :: r, 0, y, h => by
    have e : a = y := Option.some.inj h
    rw [e]
    exact List.Perm.refl _
  | a :: r, k + 1, y, h => by
    have ih := perm_pop (ls := r) (k := k) (y := y) h
    exact (List.Perm.swap a y _).trans (ih.cons a)
theorem ok_l_some (T : Txt K mg) : FnOk P w K mg base CX0 2 T.f_l_some T.fd_l_some ["pot", "pool", "many"] (spSome K) := by
  refine T.F_l_some.ok sc_l_some (fun vs H Q E h => ?_) (fun cdv A outer s H vs Q E hr h => ?_)
  · obtain ⟨p, l, xs, m, k, rfl, _⟩ := h
    rfl
  · obtain ⟨p, l, xs, m, k, rfl, hP, hL, nlp, hm, l1, q⟩ := h
    refine ⟨_, (pss_cons (ps_par (i := 3) (j := 4) (by rfl) sc_l_some.nd rfl rfl (by decide) rfl rfl (pa_cons (pe_callTy call_list_of (by rfl) T.n_list (by decide +kernel) (pa_cons (pv 1) pa_nil)) (pa_cons (pe_lst pa_nil) pa_nil)) (by rfl))
  (pss_cons (ps_for PassesOwn.never rfl (pi_range1 (by rfl) T.n_range (pa_cons (pv 2) pa_nil)) (pg_name (i := 5) sc_l_some.nd rfl (Or.inl rfl)) (pss_one (ps_expr (pe_bm PySem.F.plainAttrs_list PySem.F.slot_list_append PySem.F.type_list_append mt_append (pv 4) (pa_cons (pe_bm PySem.F.plainAttrs_list PySem.F.slot_list_pop PySem.F.type_list_pop mt_popAt (pv 3) (pa_cons (pe_call (ok_l_take T) (hr.mono (by decide)) (by rfl) T.g_l_take T.F_l_take.kp T.b_l_take .nil pass0 (pa_cons (pv 0) (pa_cons (pe_callB call_len_seq (by rfl) T.n_len PySem.boot_len (pa_cons (pv 3) pa_nil)) pa_nil))) pa_nil)) pa_nil)))))
  (pss_one (ps_ret (pv 4))))), ?_⟩
    refine ⟨.ref l, rfl, l, xs, rfl, .inl hL, fun e he => ?_⟩
    refine ⟨Nat.zero_le _, fun o ho => ?_⟩
    refine ⟨_, _, rfl, ?_⟩
    have ho' : H o = none := by
      cases z : H o with
      | none => rfl
      | some u =>
        rw [same_new he _ _ z] at ho
        cases ho
    have neo : o ≠ e := fun z => by
      rw [z, upd_same] at ho
      cases ho
    have nep : e ≠ p := hP.ne he
    have nop : o ≠ p := hP.ne ho'
    refine ⟨.int m, rfl, m, rfl, (by omega), (by omega), ?_⟩
    rw [show ((m : Int)).toNat = m from rfl]
    refine for_range (n := m) (fun i σ H' => ∃ (v : Option V) (ys ls : List V), σ = [some (.ref p), some (.ref l), some (.int m), some (.ref e), some (.ref o), v] ∧ i ≤ m ∧ Dr p (k + (m - i)) H H' ∧ H' e = some (.lst ls) ∧ H' o = some (.lst ys) ∧ (ys ++ ls).Perm xs ∧ ys.length = i)
      ⟨none, [], xs, rfl, Nat.zero_le _, ((Dr.start hP (by omega)).new he).new ho, by rw [upd_ne neo.symm, upd_same], upd_same, List.Perm.refl _, rfl⟩ ?_ ?_
    · rintro i σ H' hi ⟨v, ys, ls, rfl, _, d, h1, h2, pm, hl⟩
      have len := pm.length_eq
      rw [List.length_append] at len
      refine ⟨.ref o, rfl, .inl ⟨rfl, _, SqL.of h2⟩, .ref e, rfl, .inl ⟨rfl, _, SqL.of h1⟩, .ref p, rfl, .ref e, rfl, e, _, rfl, .inl (SqL.of h1), ?_⟩
      refine ⟨p, ls.length, k + (m - (i + 1)), rfl, d.2.mono (by omega), by omega, by omega, fun r H1 r0 r1 d1 => ?_⟩
      have hr1 : r.toNat < ls.length := by omega
      have hx : ls[r.toNat]? = some (ls[r.toNat]) := List.getElem?_eq_getElem hr1
      refine ⟨e, ls, r, r.toNat, _, rfl, rfl, d1.st nep h1, by omega, by omega, ?_, hx, ?_⟩
      · have z := seq_nat (n := ls.length) (k := r.toNat) hr1
        rw [show ((r.toNat : Nat) : Int) = r by omega] at z
        exact z
      refine ⟨o, ys, _, rfl, rfl, by rw [upd_ne neo]; exact d1.st nop h2, small1000 (by omega), ?_⟩
      refine ⟨_, ys ++ [ls[r.toNat]], ls.eraseIdx r.toNat, rfl, hi, (((d.trans d1).mut he nep).mut ho' nop), by rw [upd_ne neo.symm, upd_same], upd_same, ?_, by rw [List.length_append, hl]; rfl⟩
      rw [List.append_assoc]
      exact ((perm_pop hx).append_left ys).trans pm
    · rintro σ H' ⟨v, ys, ls, rfl, _, d, h1, h2, pm, hl⟩
      rw [Nat.sub_self] at d
      exact ⟨_, rfl, q o ys ls H' hl pm d ho' nop h2⟩
end
end OG
set_option Elab.async false
set_option linter.all false
set_option maxRecDepth 100000
set_option maxHeartbeats 4000000
namespace OG
open PySem PySem.Spec PyProof.Rows L2
def sgn (c : Nat) : V := .str ⟨#[c]⟩
def rListT : List V → Hp → VK → Prop := fun xs H Q => ∃ z : Str, xs = [.str z] ∧ z.length ≤ sizeLine ∧ ∀ q, H q = none → Q (.ref q) (upd H q (.lst (z.cps.toList.map sgn)))
theorem call_list_text {X : Cx} (hc : X.calm = true) : CallR X (.type "list") rListT := by
  intro pins s σ H xs us Q I r h
  obtain ⟨z, e, hz, q⟩ := h
  subst e
  obtain ⟨u, eu, rx⟩ := vals1 r
  subst eu
  obtain ⟨t, rfl⟩ := rx
  have hz' : z.cps.size ≤ sizeLine := hz
  refine PySem.call_list_str (hn := hz') (I.ok.hd hc) z t fun h' tk acc' c' hkeep hS hacc => ?_
  refine ⟨.ref s.heap.objs.size, upd H s.heap.objs.size (.lst (z.cps.toList.map sgn)), I.laid hkeep (Nat.le_refl _) (show ObjOk X.prog X.w _ _ _ (.lst (z.cps.toList.map sgn)) from ⟨?_, acc'.toList, c', ?_, ?_⟩), rfl, q _ (I.hok.fresh (Nat.le_refl _))⟩
  · rw [List.length_map, Array.length_toList]; exact hz'
  · have el : acc'.toList.length = acc'.size := by simp
    refine vals_of_at (by rw [List.length_map, el, hacc.1, Array.length_toList]) fun j x w h1 h2 => ?_
    have hi := hacc.2 j w (by rw [← Array.getElem?_toList]; exact h2)
    obtain ⟨c, u, hc1, rfl⟩ := hi
    rw [List.getElem?_map, Array.getElem?_toList, hc1] at h1
    have e1 : sgn c = x := Option.some.inj h1
    rw [← e1]
    exact ⟨u, rfl⟩
  · rw [Array.toArray_toList]; exact hS
end OG
set_option Elab.async false
set_option linter.all false
set_option maxRecDepth 100000
set_option maxHeartbeats 4000000
namespace OG
open PySem PySem.Spec PyProof.Rows L2
/-! names: mathematics -/
def mk (l : List Nat) : Str := ⟨l.toArray⟩
theorem mk_tl (l : List Nat) : (mk l).cps.toList = l := by simp [mk]
theorem mk_len (l : List Nat) : (mk l).length = l.length := by simp [mk, Str.length]
theorem tl_mk (z : Str) : mk z.cps.toList = z := by
  unfold mk
  rw [Array.toArray_toList]
theorem mk_inj {a b : List Nat} (h : mk a = mk b) : a = b := by
  have e := congrArg (fun z : Str => z.cps.toList) h
  simpa [mk] using e
theorem sgn_mk (c : Nat) : sgn c = .str (mk [c]) := rfl
theorem sgn_inj {a b : Nat} (h : sgn a = sgn b) : a = b := by
  have e := mk_inj (V.str.inj h)
  exact List.head_eq_of_cons_eq e
def abc : List Nat := [97, 98, 99, 100, 101, 102, 103, 104, 105, 106, 107, 108, 109, 110, 111, 112, 113, 114, 115, 116, 117, 118, 119, 120, 121, 122]
theorem abc_tl : ("abcdefghijklmnopqrstuvwxyz" : Str).cps.toList = abc := by decide +kernel
theorem map_sgn_pick : ∀ {ys : List V}, (∀ y ∈ ys, y ∈ abc.map sgn) → ∃ cs : List Nat, ys = cs.map sgn ∧ ∀ c ∈ cs, c ∈ abc
  | [], _ => ⟨[], rfl, fun _ h => by cases h⟩
  | y :: r, h => by
    obtain ⟨cs, e, k⟩ := map_sgn_pick (ys := r) fun z hz => h z (List.mem_cons_of_mem _ hz)
    obtain ⟨c, hc, hy⟩ := List.mem_map.mp (h y List.mem_cons_self)
    refine ⟨c :: cs, by rw [e, ← hy]; rfl, fun z hz => ?_⟩
    rcases List.mem_cons.mp hz with q | q
    · rw [q]; exact hc
    · exact k z q
theorem abc_nodup : (abc.map sgn).Nodup := by
  have h : abc.Nodup := by decide
  unfold List.Nodup at h ⊢
  rw [List.pairwise_map]
  exact h.imp fun n e => n (sgn_inj e)
theorem pick {ys zs : List V} (pm : (ys ++ zs).Perm (abc.map sgn)) : ∃ cs : List Nat, ys = cs.map sgn ∧ cs.Nodup ∧ ∀ c ∈ cs, c ∈ abc := by
  obtain ⟨cs, e, k⟩ := map_sgn_pick (ys := ys) fun y hy => pm.mem_iff.mp (List.mem_append_left _ hy)
  have nd : (ys ++ zs).Nodup := pm.nodup_iff.mpr abc_nodup
  have n1 : ys.Nodup := (List.nodup_append.mp nd).1
  rw [e] at n1
  refine ⟨cs, e, ?_, k⟩
  unfold List.Nodup at n1 ⊢
  rw [List.pairwise_map] at n1
  exact n1.imp fun n q => n (congrArg sgn q)
/-- a NAME of a book -/
def IsNm (z : Str) : Prop := 1 ≤ z.length ∧ z.length ≤ 4 ∧ ∀ c ∈ z.cps.toList, c ∈ abc
def nm (bs : List Nat) (at_ c : Nat) : List Nat := bs.take at_ ++ c :: bs.drop (at_ + 1)
theorem nm_len {bs : List Nat} {a c : Nat} (h : a < bs.length) : (nm bs a c).length = bs.length := by
  unfold nm
  rw [List.length_append, List.length_cons, List.length_take, List.length_drop]
  omega
theorem nm_at {bs : List Nat} {a c : Nat} (h : a < bs.length) : (nm bs a c)[a]? = some c := by
  unfold nm
  rw [List.getElem?_append_right (by rw [List.length_take]; omega), List.length_take, show a - min a bs.length = 0 by omega]
  rfl
theorem nm_mem {bs : List Nat} {a c z : Nat} (hb : ∀ x ∈ bs, x ∈ abc) (hc : c ∈ abc) (h : z ∈ nm bs a c) : z ∈ abc := by
  unfold nm at h
  rcases List.mem_append.mp h with h | h
  · exact hb _ (List.mem_of_mem_take h)
  · rcases List.mem_cons.mp h with h | h
    · rw [h]; exact hc
    · exact hb _ (List.mem_of_mem_drop h)
theorem nm_is {bs : List Nat} {a c : Nat} (hb : ∀ x ∈ bs, x ∈ abc) (hc : c ∈ abc) (h : a < bs.length) (h4 : bs.length ≤ 4) : IsNm (mk (nm bs a c)) := by
  refine ⟨?_, ?_, fun z hz => ?_⟩
  · rw [mk_len, nm_len h]; omega
  · rw [mk_len, nm_len h]; exact h4
  · rw [mk_tl] at hz
    exact nm_mem hb hc hz
theorem joinL_ones : ∀ l : List Nat, TL.joinL [] (l.map fun c => [c]) = l
  | [] => rfl
  | [_] => rfl
  | a :: b :: r => by
    show [a] ++ ([] ++ TL.joinL [] ((b :: r).map fun c => [c])) = a :: b :: r
    rw [joinL_ones (b :: r)]
    rfl
theorem join_ones (l : List Nat) : Txt.join "" (l.map fun c => mk [c]) = mk l := by
  have e := TL.tl_join "" (l.map fun c => mk [c])
  have e2 : (l.map fun c => mk [c]).map TL.tl = l.map fun c => [c] := by
    rw [List.map_map]
    rfl
  rw [e2] at e
  have e3 : TL.tl "" = [] := rfl
  rw [e3, joinL_ones] at e
  have e4 := (congrArg TL.tl (TL.join_eq "" (l.map fun c => mk [c]))).trans e
  exact TL.ext_tl (e4.trans (mk_tl l).symm)
theorem cut_to {xs : List V} {n : Nat} : cutV xs none (some (n : Int)) = xs.take n := by
  unfold cutV
  rw [HT.sIx_none, HT.sIx_nat, List.drop_zero, Nat.sub_zero]
  rw [List.take_eq_take_iff]
  omega
theorem cut_from {xs : List V} {n : Nat} : cutV xs (some (n : Int)) none = xs.drop n := by
  unfold cutV
  rw [HT.sIx_none, HT.sIx_nat]
  by_cases h : n ≤ xs.length
  · rw [Nat.min_eq_left h]
    exact List.take_of_length_le (by rw [List.length_drop]; exact Nat.le_refl _)
  · rw [Nat.min_eq_right (by omega), List.drop_eq_nil_of_le (Nat.le_refl _), List.drop_eq_nil_of_le (by omega)]
    simp
/-- what book_names tells -/
structure Nms (ns : List Str) (m : Nat) : Prop where
  len : ns.length = m
  nd : ns.Nodup
  is : ∀ z ∈ ns, IsNm z
theorem nms_of {cs : List Nat} {ns : List Str} {a : Nat} (h1 : cs.Nodup) (h2 : ns.length = cs.length) (h3 : ∀ (i : Nat) (z : Str), ns[i]? = some z → z.cps.toList[a]? = cs[i]?) (h4 : ∀ z ∈ ns, IsNm z) : Nms ns cs.length := by
  refine ⟨h2, ?_, h4⟩
  have e : ns.map (fun z => z.cps.toList[a]?) = cs.map some := by
    refine List.ext_getElem? fun i => ?_
    rw [List.getElem?_map, List.getElem?_map]
    cases q : ns[i]? with
    | none =>
      have q1 : cs[i]? = none := by
        rw [List.getElem?_eq_none_iff] at q ⊢
        omega
      rw [q1]
      rfl
    | some z =>
      have q1 : i < cs.length := by
        have := (List.getElem?_eq_some_iff.mp q).1
        omega
      show some (z.cps.toList[a]?) = _
      rw [h3 i z q, List.getElem?_eq_getElem q1]
      rfl
  have n2 : (ns.map (fun z => z.cps.toList[a]?)).Nodup := by
    rw [e]
    unfold List.Nodup at h1 ⊢
    rw [List.pairwise_map]
    exact h1.imp fun n q => n (Option.some.inj q)
  unfold List.Nodup at n2 ⊢
  rw [List.pairwise_map] at n2
  exact n2.imp fun n q => n (congrArg (fun z : Str => z.cps.toList[a]?) q)
end OG
set_option Elab.async false
set_option linter.all false
set_option maxRecDepth 100000
set_option maxHeartbeats 4000000
namespace OG
open PySem PySem.Spec PyProof.Rows L2
section
variable {P : Program} {w : World} {K : PySem.W.Frag} {mg : Str → Option Value} {base : Heap}
def spNames : Sp := fun vs H Q _ => ∃ (p : Addr) (m k : Nat), vs = [.ref p, .int (m : Int)] ∧ Pot (k + 100) H p ∧ m ≤ 5 ∧
  ∀ (q : Addr) (ns : List Str) (H' : Hp), Nms ns m → Dr p k H H' → H q = none → q ≠ p → H' q = some (.tup (ns.map V.str)) → Q (.ref q) H'
theorem ne_new {H : Hp} {p l : Addr} {o : HO} (h : (upd H l o) p = none) : p ≠ l := fun z => by
  rw [z, upd_same] at h
  cases h
theorem ok_l_book_names (T : Txt K mg) : FnOk P w K mg base CX0 3 T.f_l_book_names T.fd_l_book_names ["pot", "many"] (spNames) := by
  refine T.F_l_book_names.ok sc_l_book_names (fun vs H Q E h => ?_) (fun cdv A outer s H vs Q E hr h => ?_)
  · obtain ⟨p, m, k, rfl, _⟩ := h
    rfl
  · obtain ⟨p, m, k, rfl, hP, hm, q⟩ := h
    refine ⟨_, (pss_cons (ps_par (i := 2) (j := 3) (by rfl) sc_l_book_names.nd rfl rfl (by decide) rfl rfl (pa_cons (pe_call (ok_l_take T) (hr.mono (by decide)) (by rfl) T.g_l_take T.F_l_take.kp T.b_l_take .nil pass0 (pa_cons (pv 0) (pa_cons pe_int pa_nil))) (pa_cons (pe_cmpR op_eq (pe_call (ok_l_take T) (hr.mono (by decide)) (by rfl) T.g_l_take T.F_l_take.kp T.b_l_take .nil pass0 (pa_cons (pv 0) (pa_cons pe_int pa_nil))) pe_int (nomark _)) pa_nil)) (by rfl))
  (pss_cons (ps_set (i := 4) sc_l_book_names.nd rfl (Or.inr rfl) (pe_callTy (call_list_text rfl) (by rfl) T.n_list (by decide +kernel) (pa_cons pe_str pa_nil)))
  (pss_cons (ps_par (i := 5) (j := 6) (by rfl) sc_l_book_names.nd rfl rfl (by decide) rfl rfl (pa_cons (pe_call (ok_l_some T) (hr.mono (by decide)) (by rfl) T.g_l_some T.F_l_some.kp T.b_l_some .nil pass0 (pa_cons (pv 0) (pa_cons (pv 4) (pa_cons (pv 1) pa_nil)))) (pa_cons (pe_op op_add (pe_op op_add (pv 2) pe_int) (pe_call (ok_l_take T) (hr.mono (by decide)) (by rfl) T.g_l_take T.F_l_take.kp T.b_l_take .nil pass0 (pa_cons (pv 0) (pa_cons (pe_op op_sub pe_int (pv 2)) pa_nil)))) pa_nil)) (by rfl))
  (pss_cons (ps_par (i := 7) (j := 8) (by rfl) sc_l_book_names.nd rfl rfl (by decide) rfl rfl (pa_cons (pe_lc (own := [("lap", 10)]) (g := gName 10) (by rfl) sc_l_book_names.nd (pi_range1 (by rfl) T.n_range (pa_cons (pv 6) pa_nil)) (blkOk_by (own := [("lap", 10)]) (by rfl)) (fun _ _ _ _ _ => (pg_name (i := 10) sc_l_book_names.nd rfl (Or.inl rfl))) (fun _ _ _ _ _ => pts_nil) (fun _ _ _ _ _ => (pe_call (ok_l_of T) (hr.mono (by decide)) (by rfl) T.g_l_of T.F_l_of.kp T.b_l_of .nil pass0 (pa_cons (pv 0) (pa_cons (pv 4) pa_nil))))) (pa_cons (pe_lst pa_nil) pa_nil)) (by rfl))
  (pss_cons (ps_for PassesOwn.never rfl (pi_list (pv 5)) (pg_name (i := 9) sc_l_book_names.nd rfl (Or.inl rfl)) (pss_cons (ps_if (pt_not (pt_val (pv 3))) (pss_one (ps_setLc (i := 7) (own := [("lap", 10)]) (g := gName 10) (by rfl) sc_l_book_names.nd rfl rfl (sw_true rfl rfl rfl (by decide +kernel)) (pi_range1 (by rfl) T.n_range (pa_cons (pe_op op_add (pe_op op_add (pv 2) pe_int) (pe_call (ok_l_take T) (hr.mono (by decide)) (by rfl) T.g_l_take T.F_l_take.kp T.b_l_take .nil pass0 (pa_cons (pv 0) (pa_cons (pe_op op_sub pe_int (pv 2)) pa_nil)))) pa_nil)) (blkOk_by (own := [("lap", 10)]) (by rfl)) (fun _ _ _ _ _ => (pg_name (i := 10) sc_l_book_names.nd rfl (Or.inl rfl))) (fun _ _ _ _ _ => pts_nil) (fun _ _ _ _ _ => (pe_call (ok_l_of T) (hr.mono (by decide)) (by rfl) T.g_l_of T.F_l_of.kp T.b_l_of .nil pass0 (pa_cons (pv 0) (pa_cons (pv 4) pa_nil)))))) pss_nil)
  (pss_one (ps_expr (pe_bm PySem.F.plainAttrs_list PySem.F.slot_list_append PySem.F.type_list_append mt_append (pv 8) (pa_cons (pe_join pe_str (pe_op op_cat (pe_op op_cat (pe_slice sl_list (pv 7) po_none (po_some (pv 2))) (pe_lst (pa_cons (pv 9) pa_nil))) (pe_slice sl_list (pv 7) (po_some (pe_op op_add (pv 2) pe_int)) po_none))) pa_nil))))))
  (pss_one (ps_ret (pe_callTy call_tuple_of (by rfl) T.n_tuple (by decide +kernel) (pa_cons (pv 8) pa_nil))))))))), ?_⟩
    refine ⟨.ref p, rfl, p, 4, k + 99, rfl, hP, by decide, by decide, fun ai H1 a0 a1 d1 => ?_⟩
    refine ⟨.ref p, rfl, p, 2, k + 98, rfl, d1.2, by decide, by decide, fun r2 H2 _ _ d2 => ?_⟩
    refine ⟨rfl, _, _, rfl, ?_⟩
    have d2 := d1.trans d2
    obtain ⟨a, rfl⟩ : ∃ a : Nat, ai = (a : Int) := ⟨ai.toNat, by omega⟩
    generalize decide (V.int r2 = V.int 0) = alike
    refine ⟨_, rfl, by decide, fun lt hlt => ?_⟩
    rw [abc_tl]
    have d3 := d2.new (o := .lst (abc.map sgn)) hlt
    have nlp : lt ≠ p := d2.2.ne hlt
    refine ⟨.ref p, rfl, .ref lt, rfl, .int m, rfl, p, lt, abc.map sgn, m, k + 93, rfl, d3.2.mono (by omega), SqL.of upd_same, nlp, Nat.le_trans hm (by decide), by decide, fun tq ys zs H4 hl pm d4 ntq nqp htq => ?_⟩
    obtain ⟨cs, rfl, nd, hcs⟩ := pick pm
    rw [List.length_map] at hl
    have d34 := d3.trans d4
    refine ⟨.int a, rfl, _, _, rfl, rfl, .ref p, rfl, .int a, rfl, _, _, rfl, rfl, p, 4 - (a : Int), k + 92, rfl, d4.2, by omega, by omega, fun b H5 b0 b1 d5 => ?_⟩
    refine ⟨_, _, rfl, rfl, _, _, rfl, ?_⟩
    obtain ⟨n, hn⟩ : ∃ n : Nat, (a : Int) + 1 + b = (n : Int) := ⟨((a : Int) + 1 + b).toNat, by omega⟩
    have hn4 : a < n ∧ n ≤ 4 := by omega
    have hlt5 : H5 lt = some (.lst (abc.map sgn)) := d5.st nlp (d4.st nlp upd_same)
    have htq5 : H5 tq = some (.lst (cs.map sgn)) := d5.st nqp htq
    refine ⟨_, rfl, (n : Int), congrArg (fun z => [V.int z]) hn, (by omega), (by omega), fun D hD => ?_⟩
    have d05 := d34.trans d5
    refine lc_range (lo := 0) (n := n) (fun i H' => i ≤ n ∧ Dr p (k + 92 - i) H5 H' ∧ ∃ bs : List Nat, H' D = some (.lst (bs.map sgn)) ∧ bs.length = i ∧ ∀ c ∈ bs, c ∈ abc) ⟨Nat.zero_le _, (Dr.start d5.2 (by omega)).new hD, [], upd_same, rfl, fun _ h => by cases h⟩ ?_ ?_
    · rintro i H' hi ⟨_, d6, bs, hbs, hbl, hba⟩
      refine ⟨rfl, ?_⟩
      have nDp : D ≠ p := d5.2.ne hD
      refine ⟨.ref p, rfl, .ref lt, rfl, p, lt, abc.map sgn, k + 92 - (i + 1), rfl, d6.2.mono (by omega), SqL.of (d6.st nlp hlt5), nlp, by decide, by decide, fun j x H7 hx d7 => ?_⟩
      rw [List.getElem?_map] at hx
      cases e : abc[j]? with
      | none =>
        rw [e] at hx
        cases hx
      | some c =>
        rw [e] at hx
        have ex : sgn c = x := Option.some.inj hx
        refine ⟨bs.map sgn, d7.st nDp hbs, by rw [List.length_map]; exact small1000 (by omega), hi, (d6.trans d7).mut hD nDp, bs ++ [c], ?_, by rw [List.length_append, hbl]; rfl, fun z hz => ?_⟩
        · rw [upd_same, List.map_append, ← ex]
          rfl
        · rcases List.mem_append.mp hz with z1 | z1
          · exact hba _ z1
          · rw [List.mem_singleton.mp z1]
            exact List.mem_of_getElem? e
    · rintro H6 ⟨_, d6, bs, hbs, hbl, hba⟩
      have nDp : D ≠ p := d5.2.ne hD
      refine ⟨Nat.zero_le _, fun F hF => ?_⟩
      refine ⟨_, _, rfl, ?_⟩
      have hF5 : H5 F = none := d6.fr hF
      have nFp : F ≠ p := d6.2.ne hF
      have nDF : D ≠ F := ne_of_none hbs hF
      refine ⟨.ref tq, rfl, tq, rfl, ⟨_, SqL.of (by rw [upd_ne (ne_of_none (d6.st nqp htq5) hF)]; exact d6.st nqp htq5)⟩, ?_⟩
      refine for_list (K := K) (a := tq) (xs := cs.map sgn) (fun i σ H' => ∃ (D : Addr) (bs : List Nat) (v9 v10 : Option V) (ns : List Str), σ = [some (.ref p), some (.int m), some (.int a), some (.bl alike), some (.ref lt), some (.ref tq), some (.int ((a : Int) + 1 + b)), some (.ref D), some (.ref F), v9, v10] ∧ i ≤ m ∧ Dr p (k + 60 - 10 * i) H5 H' ∧
          H' D = some (.lst (bs.map sgn)) ∧ D ≠ p ∧ H5 D = none ∧ D ≠ F ∧ a < bs.length ∧ bs.length ≤ 4 ∧ (∀ c ∈ bs, c ∈ abc) ∧ H' F = some (.lst (ns.map V.str)) ∧ ns.length = i ∧ (∀ (j : Nat) (z : Str), ns[j]? = some z → z.cps.toList[a]? = cs[j]?) ∧ ∀ z ∈ ns, IsNm z)
        ⟨D, bs, none, none, [], rfl, Nat.zero_le _, (d6.new hF).mono (by omega), by rw [upd_ne nDF]; exact hbs, nDp, hD, nDF, by omega, by omega, hba, upd_same, rfl, fun j z h => by simp at h, fun _ h => by cases h⟩ ?_ ?_ ?_
      · rintro i σ H' _ ⟨D, bs, v9, v10, ns, rfl, _, d, _⟩
        exact SqL.of (d.st nqp htq5)
      · rintro i x σ H' hx ⟨D, bs, v9, v10, ns, rfl, hi, d, hD, nDp, nD5, nDF, ha, hb4, hba, hF, hnl, hnat, hnis⟩
        obtain ⟨c, hci, rfl⟩ : ∃ c, cs[i]? = some c ∧ x = sgn c := by
          rw [List.getElem?_map] at hx
          cases e : cs[i]? with
          | none =>
            rw [e] at hx
            cases hx
          | some c =>
            rw [e] at hx
            exact ⟨c, rfl, (Option.some.inj hx).symm⟩
        have hi5 : i < m := by
          have := (List.getElem?_eq_some_iff.mp hci).1
          omega
        refine ⟨_, rfl, alike, rfl, ?_⟩
        refine ite2 (fun _ => ?_) (fun _ => ?_)
        · -- base = [_law_of(pot, letters) for lap in range(at + 1 + _law_take(pot, 4 - at))]
          refine ⟨.int a, rfl, _, _, rfl, rfl, .ref p, rfl, .int a, rfl, _, _, rfl, rfl, p, 4 - (a : Int), k + 60 - 10 * i - 1, rfl, d.2.mono (by omega), by omega, by omega, fun b2 H8 c0 c1 d8 => ?_⟩
          obtain ⟨n2, hn2⟩ : ∃ n : Nat, (a : Int) + 1 + b2 = (n : Int) := ⟨((a : Int) + 1 + b2).toNat, by omega⟩
          have hn24 : a < n2 ∧ n2 ≤ 4 := by omega
          have d58 := d.trans d8
          have hlt8 : H8 lt = some (.lst (abc.map sgn)) := d58.st nlp hlt5
          have hF8 : H8 F = some (.lst (ns.map V.str)) := d8.st nFp hF
          refine ⟨_, _, rfl, rfl, (n2 : Int), congrArg (fun z => [V.int z]) hn2, (by omega), (by omega), fun D2 hD2 => ?_⟩
          have nDp2 : D2 ≠ p := d8.2.ne hD2
          have nDF2 : D2 ≠ F := fun z => by
            rw [z, hF8] at hD2
            cases hD2
          have nD25 : H5 D2 = none := d58.fr hD2
          refine lc_range (lo := 0) (n := n2) (fun i2 H' => i2 ≤ n2 ∧ Dr p (k + 60 - 10 * i - 1 - i2) H8 H' ∧ ∃ bs : List Nat, H' D2 = some (.lst (bs.map sgn)) ∧ bs.length = i2 ∧ ∀ c ∈ bs, c ∈ abc) ⟨Nat.zero_le _, (Dr.start d8.2 (by omega)).new hD2, [], upd_same, rfl, fun _ h => by cases h⟩ ?_ ?_
          · rintro i2 H' hi2 ⟨_, d6, bs, hbs, hbl, hba⟩
            refine ⟨rfl, ?_⟩
            refine ⟨.ref p, rfl, .ref lt, rfl, p, lt, abc.map sgn, k + 60 - 10 * i - 1 - (i2 + 1), rfl, d6.2.mono (by omega), SqL.of (d6.st nlp hlt8), nlp, by decide, by decide, fun j x H7 hx d7 => ?_⟩
            rw [List.getElem?_map] at hx
            cases e : abc[j]? with
            | none =>
              rw [e] at hx
              cases hx
            | some c =>
              rw [e] at hx
              have ex : sgn c = x := Option.some.inj hx
              refine ⟨bs.map sgn, d7.st nDp2 hbs, by rw [List.length_map]; exact small1000 (by omega), hi2, (d6.trans d7).mut hD2 nDp2, bs ++ [c], ?_, by rw [List.length_append, hbl]; rfl, fun z hz => ?_⟩
              · rw [upd_same, List.map_append, ← ex]
                rfl
              · rcases List.mem_append.mp hz with z1 | z1
                · exact hba _ z1
                · rw [List.mem_singleton.mp z1]
                  exact List.mem_of_getElem? e
          rintro H9 ⟨_, d9, bs2, hbs2, hbl2, hba2⟩
          have d59 := d58.trans d9
          have hF9 : H9 F = some (.lst (ns.map V.str)) := d9.st nFp hF8
          have ha2 : a < bs2.length := by omega
          have hb42 : bs2.length ≤ 4 := by omega
          · refine ⟨.ref F, rfl, .inl ⟨rfl, _, SqL.of hF9⟩, ⟨_, rfl⟩, .ref D2, rfl, .int a, rfl, a, rfl, D2, _, rfl, SqL.of hbs2, fun e1 he1 => ?_⟩
            refine ⟨sgn c, rfl, (by show 1 ≤ sizeLine; decide), fun e2 he2 => ?_⟩
            refine ⟨e1, e2, _, _, rfl, rfl, by rw [upd_ne (ne_new he2).symm, upd_same], upd_same, ?_, fun e3 he3 => ?_⟩
            · rw [cut_to]
              show ((bs2.map sgn).take a).length + 1 ≤ sizeLine
              rw [List.length_take, List.length_map]
              exact Nat.le_trans (show _ ≤ 100 by omega) (by decide)
            have s3 := ((same_new (o := .lst (cutV (bs2.map sgn) none (some (a : Int)))) he1).trans (same_new (o := .lst [sgn c]) he2)).trans (same_new (o := .lst (cutV (bs2.map sgn) none (some (a : Int)) ++ [sgn c])) he3)
            refine ⟨.ref D2, rfl, .int a, rfl, _, _, rfl, rfl, _, rfl, D2, _, rfl, SqL.of (s3 _ _ hbs2), fun e4 he4 => ?_⟩
            refine ⟨e3, e4, _, _, rfl, rfl, by rw [upd_ne (ne_new he4).symm, upd_same], upd_same, ?_, fun e5 he5 => ?_⟩
            · rw [cut_to, show ((a : Int) + 1) = ((a + 1 : Nat) : Int) by omega, cut_from, List.length_append, List.length_take, List.length_drop, List.length_map]
              show min a bs2.length + 1 + _ ≤ _
              exact Nat.le_trans (show _ ≤ 100 by omega) (by decide)
            have s5 := (s3.trans (same_new (o := .lst (cutV (bs2.map sgn) (some ((a : Int) + 1)) none)) he4)).trans (same_new (o := .lst (cutV (bs2.map sgn) none (some (a : Int)) ++ [sgn c] ++ cutV (bs2.map sgn) (some ((a : Int) + 1)) none)) he5)
            have en : cutV (bs2.map sgn) none (some (a : Int)) ++ [sgn c] ++ cutV (bs2.map sgn) (some ((a : Int) + 1)) none = ((nm bs2 a c).map fun c => mk [c]).map V.str := by
              rw [cut_to, show ((a : Int) + 1) = ((a + 1 : Nat) : Int) by omega, cut_from, List.map_map]
              unfold nm
              rw [List.map_append, List.map_cons, List.map_take, List.map_drop, List.append_assoc]
              rfl
            refine ⟨_, e5, (nm bs2 a c).map fun c => mk [c], rfl, rfl, .inl (SqL.of (by rw [upd_same, en])), ?_, ?_⟩
            · have l1 : ((nm bs2 a c).map fun c => mk [c]).map (·.length) = (nm bs2 a c).map fun _ => 1 := by
                rw [List.map_map]
                rfl
              rw [l1, List.map_const', List.sum_replicate_nat, List.length_map, nm_len ha2]
              show bs2.length * 1 + bs2.length * 0 ≤ 16777216
              omega
            refine ⟨F, _, _, rfl, rfl, s5 _ _ hF9, by rw [List.length_map]; exact small1000 (by omega), ?_⟩
            refine ⟨D2, bs2, _, _, ns ++ [mk (nm bs2 a c)], rfl, by omega, ?_, ?_, nDp2, nD25, nDF2, ha2, hb42, hba2, ?_, by rw [List.length_append, hnl]; rfl, ?_, ?_⟩
            · exact Dr.mono (Dr.mut ⟨d59.1.trans (Same.kp s5), d59.2.same s5⟩ hF5 nFp) (by omega)
            · rw [upd_ne nDF2]
              exact s5 _ _ hbs2
            · rw [upd_same, List.map_append, join_ones]
              rfl
            · intro j z hz
              by_cases hj : j < ns.length
              · rw [List.getElem?_append_left hj] at hz
                exact hnat j z hz
              · rw [List.getElem?_append_right (by omega)] at hz
                have hj0 : j - ns.length = 0 := by
                  have := (List.getElem?_eq_some_iff.mp hz).1
                  simp only [List.length_singleton] at this
                  omega
                rw [hj0] at hz
                have ez : mk (nm bs2 a c) = z := Option.some.inj hz
                rw [← ez, mk_tl, nm_at ha2, show j = i by omega, hci]
            · intro z hz
              rcases List.mem_append.mp hz with z1 | z1
              · exact hnis z z1
              · rw [List.mem_singleton.mp z1]
                exact nm_is hba2 (hcs _ (List.mem_of_getElem? hci)) ha2 hb42
        · refine ⟨.ref F, rfl, .inl ⟨rfl, _, SqL.of hF⟩, ⟨_, rfl⟩, .ref D, rfl, .int a, rfl, a, rfl, D, _, rfl, SqL.of hD, fun e1 he1 => ?_⟩
          refine ⟨sgn c, rfl, (by show 1 ≤ sizeLine; decide), fun e2 he2 => ?_⟩
          refine ⟨e1, e2, _, _, rfl, rfl, by rw [upd_ne (ne_new he2).symm, upd_same], upd_same, ?_, fun e3 he3 => ?_⟩
          · rw [cut_to]
            show ((bs.map sgn).take a).length + 1 ≤ sizeLine
            rw [List.length_take, List.length_map]
            exact Nat.le_trans (show _ ≤ 100 by omega) (by decide)
          have s3 := ((same_new (o := .lst (cutV (bs.map sgn) none (some (a : Int)))) he1).trans (same_new (o := .lst [sgn c]) he2)).trans (same_new (o := .lst (cutV (bs.map sgn) none (some (a : Int)) ++ [sgn c])) he3)
          refine ⟨.ref D, rfl, .int a, rfl, _, _, rfl, rfl, _, rfl, D, _, rfl, SqL.of (s3 _ _ hD), fun e4 he4 => ?_⟩
          refine ⟨e3, e4, _, _, rfl, rfl, by rw [upd_ne (ne_new he4).symm, upd_same], upd_same, ?_, fun e5 he5 => ?_⟩
          · rw [cut_to, show ((a : Int) + 1) = ((a + 1 : Nat) : Int) by omega, cut_from, List.length_append, List.length_take, List.length_drop, List.length_map]
            show min a bs.length + 1 + _ ≤ _
            exact Nat.le_trans (show _ ≤ 100 by omega) (by decide)
          have s5 := (s3.trans (same_new (o := .lst (cutV (bs.map sgn) (some ((a : Int) + 1)) none)) he4)).trans (same_new (o := .lst (cutV (bs.map sgn) none (some (a : Int)) ++ [sgn c] ++ cutV (bs.map sgn) (some ((a : Int) + 1)) none)) he5)
          have en : cutV (bs.map sgn) none (some (a : Int)) ++ [sgn c] ++ cutV (bs.map sgn) (some ((a : Int) + 1)) none = ((nm bs a c).map fun c => mk [c]).map V.str := by
            rw [cut_to, show ((a : Int) + 1) = ((a + 1 : Nat) : Int) by omega, cut_from, List.map_map]
            unfold nm
            rw [List.map_append, List.map_cons, List.map_take, List.map_drop, List.append_assoc]
            rfl
          refine ⟨_, e5, (nm bs a c).map fun c => mk [c], rfl, rfl, .inl (SqL.of (by rw [upd_same, en])), ?_, ?_⟩
          · have l1 : ((nm bs a c).map fun c => mk [c]).map (·.length) = (nm bs a c).map fun _ => 1 := by
              rw [List.map_map]
              rfl
            rw [l1, List.map_const', List.sum_replicate_nat, List.length_map, nm_len ha]
            show bs.length * 1 + bs.length * 0 ≤ 16777216
            omega
          refine ⟨F, _, _, rfl, rfl, s5 _ _ hF, by rw [List.length_map]; exact small1000 (by omega), ?_⟩
          refine ⟨D, bs, _, _, ns ++ [mk (nm bs a c)], rfl, by omega, ?_, ?_, nDp, nD5, nDF, ha, hb4, hba, ?_, by rw [List.length_append, hnl]; rfl, ?_, ?_⟩
          · exact Dr.mono (Dr.mut ⟨d.1.trans (Same.kp s5), d.2.same s5⟩ hF5 nFp) (by omega)
          · rw [upd_ne nDF]
            exact s5 _ _ hD
          · rw [upd_same, List.map_append, join_ones]
            rfl
          · intro j z hz
            by_cases hj : j < ns.length
            · rw [List.getElem?_append_left hj] at hz
              exact hnat j z hz
            · rw [List.getElem?_append_right (by omega)] at hz
              have hj0 : j - ns.length = 0 := by
                have := (List.getElem?_eq_some_iff.mp hz).1
                simp only [List.length_singleton] at this
                omega
              rw [hj0] at hz
              have ez : mk (nm bs a c) = z := Option.some.inj hz
              rw [← ez, mk_tl, nm_at ha, show j = i by omega, hci]
          · intro z hz
            rcases List.mem_append.mp hz with z1 | z1
            · exact hnis z z1
            · rw [List.mem_singleton.mp z1]
              exact nm_is hba (hcs _ (List.mem_of_getElem? hci)) ha hb4
      · rintro σ H' ⟨D, bs, v9, v10, ns, rfl, hi, d, hD, nDp, nD5, nDF, ha, hb4, hba, hF, hnl, hnat, hnis⟩
        refine ⟨.ref F, rfl, F, _, rfl, .inl ⟨SqL.of hF, fun tq2 htq2 => ?_⟩⟩
        rw [List.length_map] at hnl d
        have hms := nms_of nd hnl hnat hnis
        rw [hl] at hms
        exact q tq2 ns _ hms ((d05.trans (d.mono (by omega))).new htq2) (d05.fr (d.fr htq2)) ((d05.trans d).2.ne htq2) upd_same
end
end OG
set_option Elab.async false
set_option linter.all false
set_option maxRecDepth 100000
set_option maxHeartbeats 4000000
namespace OG
open PySem PySem.Spec PyProof.Rows L2
theorem lc_drawn {p : Addr} {m : Nat} {H5 : Hp} {D : Addr} {te : TE} {sl : Nat} {σ : L2.St} {Qd : Hp → Prop} (b : Nat → Nat) (R : V → Prop) (hP : Pot (b 0) H5 p) (hD : H5 D = none) (hm : m ≤ 1000)
    (hte : ∀ (i : Nat) (H' : Hp) (Q : VK), i < m → Dr p (b i) H5 H' → (∀ x H4, R x → Dr p (b (i + 1)) H' H4 → Q x H4) → te ((wipe σ [sl]).set sl (some (.int (0 + (i : Int))))) H' Q)
    (hw : ∀ v : Option V, wipe ((wipe σ [sl]).set sl v) [sl] = wipe σ [sl])
    (hd : ∀ (H6 : Hp) (xs : List V), xs.length = m → (∀ x ∈ xs, R x) → Dr p (b m) H5 H6 → H6 D = some (.lst xs) → Qd H6) :
    ∃ W : Nat → Nat → Hp → Prop, (∃ m, W 0 m (upd H5 D (.lst []))) ∧ ∀ i n H, W i n H →
      ((Itr 0 m).stop i H ∧ Qd H) ∨ ((Itr 0 m).go i H ∧ ∃ Nx : Hp → Prop, (∀ H', Nx H' → ∃ m', m' < n ∧ W (i + 1) m' H') ∧ ∀ x H', (Itr 0 m).yld i H x H' → gName sl x (wipe σ [sl]) H' fun σ2 H2 => wipe σ2 [sl] = wipe σ [sl] ∧ tYes σ2 H2 fun b H3 =>
        if b = true then te σ2 H3 fun y H4 => ∃ acc, H4 D = some (.lst acc) ∧ acc.length < sizeLine ∧ Nx (upd H4 D (.lst (acc ++ [y]))) else Nx H3) := by
  have nDp : D ≠ p := hP.ne hD
  refine lc_range (lo := 0) (n := m) (fun i H' => i ≤ m ∧ Dr p (b i) H5 H' ∧ ∃ xs : List V, H' D = some (.lst xs) ∧ xs.length = i ∧ ∀ x ∈ xs, R x) ⟨Nat.zero_le _, (Dr.start hP (Nat.le_refl _)).new hD, [], upd_same, rfl, fun _ h => by cases h⟩ ?_ ?_
  · rintro i H' hi ⟨_, d, xs, h1, h2, h3⟩
    refine ⟨hw _, ?_⟩
    refine hte i H' _ hi d fun x H4 hx d4 => ?_
    refine ⟨xs, d4.st nDp h1, small1000 (by omega), hi, (d.trans d4).mut hD nDp, xs ++ [x], upd_same, by rw [List.length_append, h2]; rfl, fun z hz => ?_⟩
    rcases List.mem_append.mp hz with q | q
    · exact h3 z q
    · rw [List.mem_singleton.mp q]
      exact hx
  · rintro H6 ⟨_, d, xs, h1, h2, h3⟩
    exact hd H6 xs h2 h3 d h1
theorem ints_of {P : Int → Prop} : ∀ {xs : List V}, (∀ x ∈ xs, ∃ z, x = V.int z ∧ P z) → ∃ zs : List Int, xs = zs.map V.int ∧ ∀ z ∈ zs, P z
  | [], _ => ⟨[], rfl, fun _ h => by cases h⟩
  | x :: r, h => by
    obtain ⟨zs, e, k⟩ := ints_of (xs := r) fun y hy => h y (List.mem_cons_of_mem _ hy)
    obtain ⟨z, ez, pz⟩ := h x List.mem_cons_self
    refine ⟨z :: zs, by rw [e, ez]; rfl, fun y hy => ?_⟩
    rcases List.mem_cons.mp hy with q | q
    · rw [q]; exact pz
    · exact k y q
def WOk (b w : Int) : Prop := w ≠ 0 ∧ -1000000000000 ≤ w ∧ w ≤ 1000000000000 ∧ (0 < b → 0 < w ∧ w < b)
theorem sum_bd : ∀ {zs : List Int}, (∀ z ∈ zs, -3 ≤ z ∧ z ≤ 3) → -(3 * (zs.length : Int)) ≤ zs.sum ∧ zs.sum ≤ 3 * (zs.length : Int)
  | [], _ => by simp
  | x :: r, h => by
    have ih := sum_bd (zs := r) fun y hy => h y (List.mem_cons_of_mem _ hy)
    have hx := h x List.mem_cons_self
    rw [List.sum_cons, List.length_cons]
    omega
end OG
set_option Elab.async false
set_option linter.all false
set_option maxRecDepth 100000
set_option maxHeartbeats 4000000
namespace OG
open PySem PySem.Spec PyProof.Rows L2
section
variable {P : Program} {w : World} {K : PySem.W.Frag} {mg : Str → Option Value} {base : Heap}
def spWeights : Sp := fun vs H Q _ => ∃ (p : Addr) (b : Int) (m k : Nat) (ab : Bool), vs = [.ref p, .int b, .int (m : Int), .bl ab] ∧ Pot (k + 20) H p ∧ m ≤ 5 ∧ 1 ≤ m ∧ 0 ≤ b ∧ b ≠ 1 ∧ b ≤ 97 ∧
  ∀ (q : Addr) (ws : List Int) (H' : Hp), ws.length = m → (∀ z ∈ ws, WOk b z) → Dr p k H H' → H q = none → q ≠ p → H' q = some (.tup (ws.map V.int)) → Q (.ref q) H'
theorem rep_ones : ∀ m : Nat, (List.replicate m [V.int 1]).flatten = (List.replicate m (1 : Int)).map V.int
  | 0 => rfl
  | m + 1 => by
    rw [List.replicate_succ, List.flatten_cons, rep_ones m, List.replicate_succ]
    rfl
theorem at_of {xs : List Int} {i : Nat} {x : V} (h : (xs.map V.int)[i]? = some x) : ∃ z, z ∈ xs ∧ x = .int z := by
  rw [List.getElem?_map] at h
  cases e : xs[i]? with
  | none =>
    rw [e] at h
    cases h
  | some z =>
    rw [e] at h
    exact ⟨z, List.mem_of_getElem? e, (Option.some.inj h).symm⟩
theorem ok_l_book_weights (T : Txt K mg) : FnOk P w K mg base CX0 3 T.f_l_book_weights T.fd_l_book_weights ["pot", "by", "many", "is_above"] (spWeights) := by
  refine T.F_l_book_weights.ok sc_l_book_weights (fun vs H Q E h => ?_) (fun cdv A outer s H vs Q E hr h => ?_)
  · obtain ⟨p, b, m, k, ab, rfl, _⟩ := h
    rfl
  · obtain ⟨p, b, m, k, ab, rfl, hP, hm, hm1, b0, bn1, b97, q⟩ := h
    refine ⟨_, (pss_cons (ps_set (i := 4) sc_l_book_weights.nd rfl (Or.inl rfl) (pe_call (ok_l_take T) (hr.mono (by decide)) (by rfl) T.g_l_take T.F_l_take.kp T.b_l_take .nil pass0 (pa_cons (pv 0) (pa_cons pe_int pa_nil))))
  (pss_cons (ps_if (pt_cmpR op_eq (pv 4) pe_int (nomark _)) (pss_one (ps_ret (pe_callTy call_tuple_of (by rfl) T.n_tuple (by decide +kernel) (pa_cons (pe_op op_rep (pe_lst (pa_cons pe_int pa_nil)) (pv 2)) pa_nil)))) pss_nil)
  (pss_cons (ps_if (pt_cmpR op_gt (pv 1) pe_int (nomark _)) (pss_one (ps_ret (pe_callTy call_tuple_of (by rfl) T.n_tuple (by decide +kernel) (pa_cons (pe_lc (own := [("lap", 8)]) (g := gName 8) (by rfl) sc_l_book_weights.nd (pi_range1 (by rfl) T.n_range (pa_cons (pv 2) pa_nil)) (blkOk_by (own := [("lap", 8)]) (by rfl)) (fun _ _ _ _ _ => (pg_name (i := 8) sc_l_book_weights.nd rfl (Or.inl rfl))) (fun _ _ _ _ _ => pts_nil) (fun _ _ _ _ _ => (pe_op op_add pe_int (pe_call (ok_l_take T) (hr.mono (by decide)) (by rfl) T.g_l_take T.F_l_take.kp T.b_l_take .nil pass0 (pa_cons (pv 0) (pa_cons (pe_op op_sub (pv 1) pe_int) pa_nil)))))) pa_nil)))) pss_nil)
  (pss_cons (ps_if (PW.pt (pw_or (pt_val (pv 3)) (pw_or1 (pt_cmpR op_lt (pv 4) pe_int (nomark _))))) (pss_cons (ps_set (i := 5) sc_l_book_weights.nd rfl (Or.inr rfl) (pe_call (ok_l_of T) (hr.mono (by decide)) (by rfl) T.g_l_of T.F_l_of.kp T.b_l_of .nil pass0 (pa_cons (pv 0) (pa_cons (pe_lst (pa_cons pe_int (pa_cons pe_int (pa_cons pe_int (pa_cons (pe_op op_powW pe_int pe_int) pa_nil))))) pa_nil))))
  (pss_one (ps_ret (pe_callTy call_tuple_of (by rfl) T.n_tuple (by decide +kernel) (pa_cons (pe_lc (own := [("lap", 8)]) (g := gName 8) (by rfl) sc_l_book_weights.nd (pi_range1 (by rfl) T.n_range (pa_cons (pv 2) pa_nil)) (blkOk_by (own := [("lap", 8)]) (by rfl)) (fun _ _ _ _ _ => (pg_name (i := 8) sc_l_book_weights.nd rfl (Or.inl rfl))) (fun _ _ _ _ _ => pts_nil) (fun _ _ _ _ _ => (pe_op op_add pe_int (pe_call (ok_l_take T) (hr.mono (by decide)) (by rfl) T.g_l_take T.F_l_take.kp T.b_l_take .nil pass0 (pa_cons (pv 0) (pa_cons (pv 5) pa_nil)))))) pa_nil))))) pss_nil)
  (pss_cons (ps_if (pt_cmpR op_eq (pv 4) pe_int (nomark _)) (pss_one (ps_ret (pe_callTy call_tuple_of (by rfl) T.n_tuple (by decide +kernel) (pa_cons (pe_lc (own := [("lap", 8)]) (g := gName 8) (by rfl) sc_l_book_weights.nd (pi_range1 (by rfl) T.n_range (pa_cons (pv 2) pa_nil)) (blkOk_by (own := [("lap", 8)]) (by rfl)) (fun _ _ _ _ _ => (pg_name (i := 8) sc_l_book_weights.nd rfl (Or.inl rfl))) (fun _ _ _ _ _ => pts_nil) (fun _ _ _ _ _ => (pe_call (ok_l_of T) (hr.mono (by decide)) (by rfl) T.g_l_of T.F_l_of.kp T.b_l_of .nil pass0 (pa_cons (pv 0) (pa_cons (pe_lst (pa_cons (pe_op op_powW pe_int pe_int) (pa_cons (pe_un un_neg (pe_op op_powW pe_int pe_int)) (pa_cons pe_int (pa_cons (pe_un un_neg pe_int) (pa_cons pe_int pa_nil)))))) pa_nil))))) pa_nil)))) pss_nil)
  (pss_cons (ps_setLc (i := 6) (own := [("lap", 8)]) (g := gName 8) (by rfl) sc_l_book_weights.nd rfl rfl (sw_true rfl rfl rfl (by decide +kernel)) (pi_range1 (by rfl) T.n_range (pa_cons (pv 2) pa_nil)) (blkOk_by (own := [("lap", 8)]) (by rfl)) (fun _ _ _ _ _ => (pg_name (i := 8) sc_l_book_weights.nd rfl (Or.inl rfl))) (fun _ _ _ _ _ => pts_nil) (fun _ _ _ _ _ => (pe_call (ok_l_of T) (hr.mono (by decide)) (by rfl) T.g_l_of T.F_l_of.kp T.b_l_of .nil pass0 (pa_cons (pv 0) (pa_cons (pe_lst (pa_cons pe_int (pa_cons (pe_un un_neg pe_int) (pa_cons pe_int (pa_cons (pe_un un_neg pe_int) (pa_cons pe_int (pa_cons (pe_un un_neg pe_int) pa_nil))))))) pa_nil)))))
  (pss_cons (ps_set (i := 7) sc_l_book_weights.nd rfl (Or.inl rfl) (pe_un un_neg (pe_callB (cr_sum rfl) (by rfl) T.n_sum (by decide +kernel) (pa_cons (pe_lc (own := [("weight", 9)]) (g := gName 9) (by rfl) sc_l_book_weights.nd (pi_list (pe_slice sl_list (pv 6) (po_some pe_int) po_none)) (blkOk_by (own := [("weight", 9)]) (by rfl)) (fun _ _ _ _ _ => (pg_name (i := 9) sc_l_book_weights.nd rfl (Or.inl rfl))) (fun _ _ _ _ _ => pts_nil) (fun _ _ _ _ _ => (pe_callTy call_int1 (by rfl) T.n_int (by decide +kernel) (pa_cons (pv 9) pa_nil)))) pa_nil))))
  (pss_one (ps_ret (pe_callTy call_tuple_of (by rfl) T.n_tuple (by decide +kernel) (pa_cons (pe_ifExp (PW.pt (pw_and (pt_cmpR op_eq (pv 4) pe_int (nomark _)) (pw_and1 (pt_cmpR op_ne (pv 7) pe_int (nomark _))))) (pe_op op_cat (pe_lst (pa_cons (pv 7) pa_nil)) (pe_slice sl_list (pv 6) (po_some pe_int) po_none)) (pv 6)) pa_nil))))))))))), ?_⟩
    refine ⟨.ref p, rfl, p, 6, k + 19, rfl, hP, by decide, by decide, fun way H1 w0 w1 d1 => ?_⟩
    have fin : ∀ (D : Addr) (H6 : Hp) (zs : List Int), zs.length = m → (∀ z ∈ zs, WOk b z) → Dr p k H H6 → H6 D = some (.lst (zs.map V.int)) →
        ∃ p_1 ys, [V.ref D] = [V.ref p_1] ∧ ((SqL K H6 p_1 ys ∧ ∀ l, H6 l = none → Q (.ref l) (upd H6 l (.tup ys))) ∨ (SqT K H6 p_1 ys ∧ Q (.ref p_1) H6)) := fun D H6 zs h1 h2 d h3 =>
      ⟨D, _, rfl, .inl ⟨SqL.of h3, fun t ht => q t zs _ h1 h2 (d.new ht) (d.fr ht) (d.2.ne ht) upd_same⟩⟩
    refine ⟨.int way, rfl, rfl, _, rfl, ite2 (fun _ => ?_) (fun _ => ?_)⟩
    · refine ⟨by decide, fun e1 he1 => ?_⟩
      refine ⟨.int m, rfl, e1, m, _, rfl, rfl, upd_same, by omega, by omega, ?_, fun e2 he2 => ?_⟩
      · show 1 * m ≤ sizeLine
        exact Nat.le_trans (show _ ≤ 100 by omega) (by decide)
      · refine fin e2 _ (List.replicate m (1 : Int)) (List.length_replicate ..) (fun z hz => ?_) (((d1.new he1).new he2).mono (by omega)) ?_
        · rw [(List.mem_replicate.mp hz).2]
          exact ⟨by decide, by decide, by decide, fun _ => by omega⟩
        · rw [upd_same, ← rep_ones]
          rfl
    · refine ⟨.int b, rfl, _, _, rfl, rfl, _, rfl, ite2 (fun hb => ?_) (fun hb => ?_)⟩
      · have hb : 0 < b := of_decide_eq_true hb
        refine ⟨.int m, rfl, m, rfl, by omega, by omega, fun D hD => ?_⟩
        refine lc_drawn (m := m) (fun i => k + 19 - i) (fun x => ∃ z, x = .int z ∧ WOk b z) d1.2 hD (by omega) (fun i H' Q' hi d hq => ?_) (fun _ => rfl) ?_
        · refine ⟨.ref p, rfl, .int b, rfl, _, _, rfl, rfl, p, b - 1, k + 19 - (i + 1), rfl, d.2.mono (by omega), by omega, by omega, fun r H4 r0 r1 d4 => ?_⟩
          exact ⟨_, _, rfl, rfl, hq _ _ ⟨1 + r, rfl, by omega, by omega, by omega, fun _ => by omega⟩ d4⟩
        · intro H6 xs h1 h2 d h3
          obtain ⟨zs, rfl, hz⟩ := ints_of h2
          exact fin D H6 zs (by rw [← h1, List.length_map]) hz ((d1.trans d).mono (by omega)) h3
      · have hb : b = 0 := by
          have := of_decide_eq_false (Bool.eq_false_iff.mpr hb)
          omega
        subst hb
        refine ⟨.bl ab, rfl, ab, rfl, ?_⟩
        cases ab with
        | true =>
          refine ⟨.ref p, rfl, _, _, rfl, rfl, pow_c (by decide), by decide, fun l hl => ?_⟩
          have nlp : l ≠ p := d1.2.ne hl
          refine ⟨p, l, _, k + 18, rfl, (d1.new hl).2.mono (by omega), SqL.of upd_same, nlp, by decide, by decide, fun j x H4 hx d4 => ?_⟩
          obtain ⟨most, rfl, m0, m1⟩ : ∃ z : Int, x = .int z ∧ 0 < z ∧ z ≤ 1000000000000 := by
            have hx : [V.int 3, V.int 3, V.int 99, V.int 1000000000000][j]? = some x := hx
            rcases j with _ | _ | _ | _ | j
            · exact ⟨3, (Option.some.inj hx).symm, by decide, by decide⟩
            · exact ⟨3, (Option.some.inj hx).symm, by decide, by decide⟩
            · exact ⟨99, (Option.some.inj hx).symm, by decide, by decide⟩
            · exact ⟨1000000000000, (Option.some.inj hx).symm, by decide, by decide⟩
            · simp at hx
          have d14 := (d1.new (o := .lst [V.int 3, V.int 3, V.int 99, V.int 1000000000000]) hl).trans d4
          refine ⟨.int m, rfl, m, rfl, by omega, by omega, fun D hD => ?_⟩
          refine lc_drawn (m := m) (fun i => k + 18 - i) (fun x => ∃ z, x = .int z ∧ WOk 0 z) d4.2 hD (by omega) (fun i H' Q' hi d hq => ?_) (fun _ => rfl) ?_
          · refine ⟨.ref p, rfl, .int most, rfl, p, most, k + 18 - (i + 1), rfl, d.2.mono (by omega), m0, by omega, fun r H4 r0 r1 d4 => ?_⟩
            exact ⟨_, _, rfl, rfl, hq _ _ ⟨1 + r, rfl, by omega, by omega, by omega, fun _ => by omega⟩ d4⟩
          · intro H6 xs h1 h2 d h3
            obtain ⟨zs, rfl, hz⟩ := ints_of h2
            exact fin D H6 zs (by rw [← h1, List.length_map]) hz ((d14.trans d).mono (by omega)) h3
        | false =>
          refine ⟨.int way, rfl, _, _, rfl, rfl, _, rfl, ite2 (fun _ => ?_) (fun _ => ?_)⟩
          · -- most
            refine ⟨.ref p, rfl, _, _, rfl, rfl, pow_c (by decide), by decide, fun l hl => ?_⟩
            have nlp : l ≠ p := d1.2.ne hl
            refine ⟨p, l, _, k + 18, rfl, (d1.new hl).2.mono (by omega), SqL.of upd_same, nlp, by decide, by decide, fun j x H4 hx d4 => ?_⟩
            obtain ⟨most, rfl, m0, m1⟩ : ∃ z : Int, x = .int z ∧ 0 < z ∧ z ≤ 1000000000000 := by
              have hx : [V.int 3, V.int 3, V.int 99, V.int 1000000000000][j]? = some x := hx
              rcases j with _ | _ | _ | _ | j
              · exact ⟨3, (Option.some.inj hx).symm, by decide, by decide⟩
              · exact ⟨3, (Option.some.inj hx).symm, by decide, by decide⟩
              · exact ⟨99, (Option.some.inj hx).symm, by decide, by decide⟩
              · exact ⟨1000000000000, (Option.some.inj hx).symm, by decide, by decide⟩
              · simp at hx
            have d14 := (d1.new (o := .lst [V.int 3, V.int 3, V.int 99, V.int 1000000000000]) hl).trans d4
            refine ⟨.int m, rfl, m, rfl, by omega, by omega, fun D hD => ?_⟩
            refine lc_drawn (m := m) (fun i => k + 18 - i) (fun x => ∃ z, x = .int z ∧ WOk 0 z) d4.2 hD (by omega) (fun i H' Q' hi d hq => ?_) (fun _ => rfl) ?_
            · refine ⟨.ref p, rfl, .int most, rfl, p, most, k + 18 - (i + 1), rfl, d.2.mono (by omega), m0, by omega, fun r H4 r0 r1 d4 => ?_⟩
              exact ⟨_, _, rfl, rfl, hq _ _ ⟨1 + r, rfl, by omega, by omega, by omega, fun _ => by omega⟩ d4⟩
            · intro H6 xs h1 h2 d h3
              obtain ⟨zs, rfl, hz⟩ := ints_of h2
              exact fin D H6 zs (by rw [← h1, List.length_map]) hz ((d14.trans d).mono (by omega)) h3
          · refine ⟨.int way, rfl, rfl, _, rfl, ite2 (fun _ => ?_) (fun _ => ?_)⟩
            · refine ⟨.int m, rfl, m, rfl, by omega, by omega, fun D hD => ?_⟩
              refine lc_drawn (m := m) (fun i => k + 19 - i) (fun x => ∃ z, x = .int z ∧ WOk 0 z) d1.2 hD (by omega) (fun i H' Q' hi d hq => ?_) (fun _ => rfl) ?_
              · refine ⟨.ref p, rfl, _, _, rfl, rfl, pow_c (by decide), _, _, rfl, rfl, pow_c (by decide), _, rfl, _, rfl, by decide, fun l hl => ?_⟩
                have nlp : l ≠ p := d.2.ne hl
                refine ⟨p, l, _, k + 19 - (i + 1), rfl, (d.2.same (same_new hl)).mono (by omega), SqL.of upd_same, nlp, by decide, by decide, fun j x H4 hx d4 => ?_⟩
                refine hq _ _ ?_ ((Dr.new (Dr.start d.2 (Nat.le_refl _)) hl).trans d4)
                have hx : [V.int 1000000000000, V.int (-1000000000000), V.int 1, V.int (-1), V.int 99][j]? = some x := hx
                rcases j with _ | _ | _ | _ | _ | j
                · exact ⟨_, (Option.some.inj hx).symm, by decide, by decide, by decide, fun h => absurd h (by decide)⟩
                · exact ⟨_, (Option.some.inj hx).symm, by decide, by decide, by decide, fun h => absurd h (by decide)⟩
                · exact ⟨_, (Option.some.inj hx).symm, by decide, by decide, by decide, fun h => absurd h (by decide)⟩
                · exact ⟨_, (Option.some.inj hx).symm, by decide, by decide, by decide, fun h => absurd h (by decide)⟩
                · exact ⟨_, (Option.some.inj hx).symm, by decide, by decide, by decide, fun h => absurd h (by decide)⟩
                · simp at hx
              · intro H6 xs h1 h2 d h3
                obtain ⟨zs, rfl, hz⟩ := ints_of h2
                exact fin D H6 zs (by rw [← h1, List.length_map]) hz ((d1.trans d).mono (by omega)) h3
            · -- found
              refine ⟨.int m, rfl, m, rfl, by omega, by omega, fun D hD => ?_⟩
              refine lc_drawn (m := m) (fun i => k + 19 - i) (fun x => ∃ z, x = .int z ∧ (z ≠ 0 ∧ -3 ≤ z ∧ z ≤ 3)) d1.2 hD (by omega) (fun i H' Q' hi d hq => ?_) (fun _ => rfl) ?_
              · refine ⟨.ref p, rfl, _, rfl, _, rfl, _, rfl, by decide, fun l hl => ?_⟩
                have nlp : l ≠ p := d.2.ne hl
                refine ⟨p, l, _, k + 19 - (i + 1), rfl, (d.2.same (same_new hl)).mono (by omega), SqL.of upd_same, nlp, by decide, by decide, fun j x H4 hx d4 => ?_⟩
                refine hq _ _ ?_ ((Dr.new (Dr.start d.2 (Nat.le_refl _)) hl).trans d4)
                have hx : [V.int 1, V.int (-1), V.int 2, V.int (-2), V.int 3, V.int (-3)][j]? = some x := hx
                rcases j with _ | _ | _ | _ | _ | _ | j
                · exact ⟨_, (Option.some.inj hx).symm, by decide, by decide, by decide⟩
                · exact ⟨_, (Option.some.inj hx).symm, by decide, by decide, by decide⟩
                · exact ⟨_, (Option.some.inj hx).symm, by decide, by decide, by decide⟩
                · exact ⟨_, (Option.some.inj hx).symm, by decide, by decide, by decide⟩
                · exact ⟨_, (Option.some.inj hx).symm, by decide, by decide, by decide⟩
                · exact ⟨_, (Option.some.inj hx).symm, by decide, by decide, by decide⟩
                · simp at hx
              · intro H6 xs h1 h2 d h3
                obtain ⟨zs, rfl, hz⟩ := ints_of h2
                rw [List.length_map] at h1
                have dz := d1.trans d
                refine ⟨.ref D, rfl, _, rfl, D, _, rfl, SqL.of h3, fun e he => ?_⟩
                have ec : cutV (zs.map V.int) (some 1) none = (zs.drop 1).map V.int := by
                  rw [show (1 : Int) = ((1 : Nat) : Int) from rfl, cut_from, List.map_drop]
                have hdl : (zs.drop 1).length ≤ 5 := by
                  rw [List.length_drop]
                  omega
                have d7 := dz.new (o := .lst (cutV (zs.map V.int) (some 1) none)) he
                refine ⟨e, rfl, ⟨_, SqL.of upd_same⟩, fun G hG => ?_⟩
                refine lc_list (K := K) (a := e) (xs := (zs.drop 1).map V.int) (fun i H' => i ≤ (zs.drop 1).length ∧ Same (upd H6 e (.lst (cutV (zs.map V.int) (some 1) none))) H' ∧ H' G = some (.lst (((zs.drop 1).take i).map V.int)))
                  ⟨Nat.zero_le _, same_new hG, upd_same⟩ (fun i H' _ ⟨_, s, _⟩ => SqL.of (by rw [← ec]; exact s _ _ upd_same)) ?_ ?_
                · rintro i x H' hx ⟨hi, s, hG'⟩
                  have hil : i < (zs.drop 1).length := by
                    have := (List.getElem?_eq_some_iff.mp hx).1
                    rwa [List.length_map] at this
                  have ex : x = .int ((zs.drop 1)[i]) := by
                    rw [List.getElem?_map, List.getElem?_eq_getElem hil] at hx
                    exact (Option.some.inj hx).symm
                  subst ex
                  refine ⟨rfl, ?_⟩
                  refine ⟨_, rfl, .inl ⟨_, rfl, ?_⟩⟩
                  refine ⟨_, hG', ?_, hil, fun a o ho => ?_, ?_⟩
                  · rw [List.length_map, List.length_take]
                    exact small1000 (by omega)
                  · rw [upd_ne (ne_of_none ho hG)]
                    exact s _ _ ho
                  · rw [upd_same, List.take_add_one, List.getElem?_eq_getElem hil, List.map_append]
                    rfl
                · rintro H7 ⟨_, s, hG'⟩
                  rw [List.length_map, List.take_length] at hG'
                  refine ⟨G, _, rfl, SqL.of hG', ?_⟩
                  have d8 : Dr p (k + 19 - m) H H7 := ⟨d7.1.trans (Same.kp s), d7.2.same s⟩
                  have hD7 : H7 D = some (.lst (zs.map V.int)) := s _ _ (by rw [upd_ne (ne_of_none h3 he)]; exact h3)
                  refine ⟨_, rfl, ?_⟩
                  have sb := sum_bd (zs := zs.drop 1) fun z hz' => ⟨(hz z (List.mem_of_mem_drop hz')).2.1, (hz z (List.mem_of_mem_drop hz')).2.2⟩
                  have sl : ((zs.drop 1).length : Int) ≤ 4 := by
                    rw [List.length_drop]
                    omega
                  have hz1 : ∀ z ∈ zs, WOk 0 z := fun z hz' => by
                    obtain ⟨z1, z2, z3⟩ := hz z hz'
                    exact ⟨z1, by omega, by omega, fun h => absurd h (by decide)⟩
                  refine ⟨.int way, rfl, rfl, _, rfl, ?_⟩
                  refine ite2 (fun _ => ?_) (fun _ => ?_)
                  · refine ⟨_, rfl, rfl, _, rfl, ?_⟩
                    generalize hl : (!decide (V.int (-(zs.drop 1).sum) = V.int 0)) = last0
                    cases last0 with
                    | true =>
                      have ln : -(zs.drop 1).sum ≠ 0 := fun z => by
                        rw [z] at hl
                        cases hl
                      refine ⟨_, rfl, (by show 1 ≤ sizeLine; decide), fun u hu => ?_⟩
                      refine ⟨.ref D, rfl, _, rfl, D, _, rfl, SqL.of (by rw [upd_ne (ne_of_none hD7 hu)]; exact hD7), fun v hv => ?_⟩
                      refine ⟨u, v, _, _, rfl, rfl, by rw [upd_ne (ne_new hv).symm, upd_same], upd_same, ?_, fun t ht => ?_⟩
                      · rw [ec, List.length_map, List.length_drop]
                        exact Nat.le_trans (show 1 + (zs.length - 1) ≤ 100 by omega) (by decide)
                      · refine fin t _ (-(zs.drop 1).sum :: zs.drop 1) ?_ (fun z hz' => ?_) ((((d8.new hu).new hv).new ht).mono (by omega)) ?_
                        · rw [List.length_cons, List.length_drop]
                          omega
                        · rcases List.mem_cons.mp hz' with z1 | z1
                          · rw [z1]
                            exact ⟨ln, by omega, by omega, fun h => absurd h (by decide)⟩
                          · exact hz1 z (List.mem_of_mem_drop z1)
                        · rw [upd_same, ec]
                          rfl
                    | false => exact ⟨_, rfl, fin D H7 zs h1 hz1 (d8.mono (by omega)) hD7⟩
                  · exact ⟨_, rfl, fin D H7 zs h1 hz1 (d8.mono (by omega)) hD7⟩
end
end OG
set_option Elab.async false
set_option linter.all false
set_option maxRecDepth 100000
set_option maxHeartbeats 4000000
namespace OG
open PySem PySem.Spec PyProof.Rows L2
theorem seq_fin {t1 t2 : TS} {D : Ends} {σ : L2.St} {H : Hp} (C : L2.St → Hp → Prop) (h2 : ∀ σ' H', C σ' H' → t2 D σ' H') (h1 : (∀ σ' H', C σ' H' → t2 D σ' H') → t1 { D with nx := t2 D } σ H) : tSeq t1 t2 D σ H := h1 h2
/-- places: the ints below m -/
def plV (m : Nat) : List V := rgV 0 (m : Int)
theorem plV_len (m : Nat) : (plV m).length = m := by
  unfold plV
  rw [rgV_length]
  omega
theorem plV_at {m i : Nat} {x : V} (h : (plV m)[i]? = some x) : i < m ∧ x = .int (i : Int) := by
  have hi : i < m := by
    have q := (List.getElem?_eq_some_iff.mp h).1
    rwa [plV_len] at q
  refine ⟨hi, ?_⟩
  unfold plV rgV at h
  rw [List.getElem?_map, List.getElem?_range (show i < ((m : Int) - 0).toNat by omega)] at h
  have e : V.int (0 + (i : Int)) = x := Option.some.inj h
  rw [← e, Int.zero_add]
/-- a list of lists: m rows of m numbers -/
def Mat (R : Int → Prop) (p : Addr) (H : Hp) (S : Addr) (m : Nat) : Prop := ∃ rs : List Addr, H S = some (.lst (rs.map V.ref)) ∧ S ≠ p ∧ rs.length = m ∧ ∀ r ∈ rs, r ≠ p ∧ r ≠ S ∧ ∃ row : List Int, H r = some (.lst (row.map V.int)) ∧ row.length = m ∧ ∀ z ∈ row, R z
theorem Mat.imp {R R' : Int → Prop} {p : Addr} {H : Hp} {S : Addr} {m : Nat} (h : Mat R p H S m) (e : ∀ z, R z → R' z) : Mat R' p H S m := by
  obtain ⟨rs, h1, h2, h3, h4⟩ := h
  refine ⟨rs, h1, h2, h3, fun r hr => ?_⟩
  obtain ⟨a, b, row, c, d, f⟩ := h4 r hr
  exact ⟨a, b, row, c, d, fun z hz => e z (f z hz)⟩
theorem Mat.dr {R : Int → Prop} {p : Addr} {H H' : Hp} {S : Addr} {m k : Nat} (h : Mat R p H S m) (d : Dr p k H H') : Mat R p H' S m := by
  obtain ⟨rs, h1, h2, h3, h4⟩ := h
  refine ⟨rs, d.st h2 h1, h2, h3, fun r hr => ?_⟩
  obtain ⟨a, b, row, c, d', f⟩ := h4 r hr
  exact ⟨a, b, row, d.st a c, d', f⟩
/-- the entry at a, b -/
theorem Mat.row {R : Int → Prop} {p : Addr} {H : Hp} {S : Addr} {m i : Nat} (h : Mat R p H S m) (hi : i < m) : ∃ (rs : List Addr) (r : Addr) (row : List Int), H S = some (.lst (rs.map V.ref)) ∧ rs.length = m ∧ (rs.map V.ref)[i]? = some (.ref r) ∧ H r = some (.lst (row.map V.int)) ∧ row.length = m ∧ ∀ z ∈ row, R z := by
  obtain ⟨rs, h1, h2, h3, h4⟩ := h
  have hr : rs[i]? = some (rs[i]'(by omega)) := List.getElem?_eq_getElem (by omega)
  obtain ⟨a, b, row, c, d', f⟩ := h4 _ (List.mem_of_getElem? hr)
  refine ⟨rs, _, row, h1, h3, ?_, c, d', f⟩
  rw [List.getElem?_map, hr]
  rfl
theorem row_at {R : Int → Prop} {row : List Int} {m i : Nat} (h : row.length = m) (f : ∀ z ∈ row, R z) (hi : i < m) : ∃ z, (row.map V.int)[i]? = some (.int z) ∧ R z := by
  have hr : row[i]? = some (row[i]'(by omega)) := List.getElem?_eq_getElem (by omega)
  refine ⟨_, ?_, f _ (List.mem_of_getElem? hr)⟩
  rw [List.getElem?_map, hr]
  rfl
theorem lc_mat {K : PySem.W.Frag} {p pl D : Addr} {m k sa sb sp : Nat} {H5 : Hp} {te : TE} {σ : L2.St} {Qd : Hp → Prop} (R : Int → Prop)
    (hP : Pot (k + 25) H5 p) (hm : m ≤ 4) (hpl : H5 pl = some (.lst (plV m))) (npl : pl ≠ p) (hD : H5 D = none)
    (hte : ∀ (a b j : Nat) (H' : Hp) (Q' : VK), a < m → b < m → Dr p (j + 1) H5 H' → (∀ z H4, R z → Dr p j H' H4 → Q' (.int z) H4) →
      te ((wipe ((wipe σ [sa]).set sa (some (.int (a : Int)))) [sb]).set sb (some (.int (b : Int)))) H' Q')
    (hv : ∀ v : Option V, ((wipe σ [sa]).set sa v)[sp]? = some (some (.ref pl)))
    (hw1 : ∀ v : Option V, wipe ((wipe σ [sa]).set sa v) [sa] = wipe σ [sa])
    (hw2 : ∀ v v2 : Option V, wipe ((wipe ((wipe σ [sa]).set sa v) [sb]).set sb v2) [sb] = wipe ((wipe σ [sa]).set sa v) [sb])
    (hd : ∀ (H6 : Hp), Mat R p H6 D m → Dr p k H5 H6 → Qd H6) :
    ∃ W : Nat → Nat → Hp → Prop, (∃ m, W 0 m (upd H5 D (.lst []))) ∧ ∀ i n H, W i n H →
      ((Itl K pl).stop i H ∧ Qd H) ∨ ((Itl K pl).go i H ∧ ∃ Nx : Hp → Prop, (∀ H', Nx H' → ∃ m', m' < n ∧ W (i + 1) m' H') ∧ ∀ x H', (Itl K pl).yld i H x H' → gName sa x (wipe σ [sa]) H' fun σ2 H2 => wipe σ2 [sa] = wipe σ [sa] ∧ tYes σ2 H2 fun b H3 =>
        if b = true then tLc (iList K (tVar sp)) (gName sb) tYes te [sb] σ2 H3 fun y H4 => ∃ acc, H4 D = some (.lst acc) ∧ acc.length < sizeLine ∧ Nx (upd H4 D (.lst (acc ++ [y]))) else Nx H3) := by
  have nDp : D ≠ p := hP.ne hD
  refine lc_list (K := K) (a := pl) (xs := plV m) (fun i H' => i ≤ m ∧ Dr p (k + 25 - 5 * i) H5 H' ∧ ∃ rs : List Addr, H' D = some (.lst (rs.map V.ref)) ∧ rs.length = i ∧ ∀ r ∈ rs, r ≠ p ∧ r ≠ D ∧ ∃ row : List Int, H' r = some (.lst (row.map V.int)) ∧ row.length = m ∧ ∀ z ∈ row, R z)
    ⟨Nat.zero_le _, (Dr.start hP (Nat.le_refl _)).new hD, [], upd_same, rfl, fun _ h => by cases h⟩ (fun i H' _ ⟨_, d, _⟩ => SqL.of (d.st npl hpl)) ?_ ?_
  · rintro i x H' hx ⟨_, d, rs, h1, h2, h3⟩
    obtain ⟨him, rfl⟩ := plV_at hx
    refine ⟨hw1 _, ?_⟩
    refine ⟨.ref pl, hv _, pl, rfl, ⟨_, SqL.of (d.st npl hpl)⟩, fun D2 hD2 => ?_⟩
    have nD2p : D2 ≠ p := d.2.ne hD2
    have nD2D : D2 ≠ D := fun z => by
      rw [z, h1] at hD2
      cases hD2
    have hD25 := d.fr hD2
    refine lc_list (K := K) (a := pl) (xs := plV m) (fun j H7 => j ≤ m ∧ Dr p (k + 25 - 5 * i - j) H' H7 ∧ ∃ row : List Int, H7 D2 = some (.lst (row.map V.int)) ∧ row.length = j ∧ ∀ z ∈ row, R z)
      ⟨Nat.zero_le _, (Dr.start d.2 (Nat.le_refl _)).new hD2, [], upd_same, rfl, fun _ h => by cases h⟩ (fun j H7 _ ⟨_, d7, _⟩ => SqL.of (d7.st npl (d.st npl hpl))) ?_ ?_
    · rintro j x H7 hx ⟨_, d7, row, g1, g2, g3⟩
      obtain ⟨hjm, rfl⟩ := plV_at hx
      refine ⟨hw2 _ _, ?_⟩
      refine hte i j (k + 25 - 5 * i - (j + 1)) H7 _ him hjm ((d.trans d7).mono (by omega)) fun z H8 hz d8 => ?_
      refine ⟨row.map V.int, d8.st nD2p g1, by rw [List.length_map]; exact small1000 (by omega), hjm, (d7.trans d8).mut hD2 nD2p, row ++ [z], ?_, by rw [List.length_append, g2]; rfl, fun y hy => ?_⟩
      · rw [upd_same, List.map_append]
        rfl
      · rcases List.mem_append.mp hy with q | q
        · exact g3 y q
        · rw [List.mem_singleton.mp q]
          exact hz
    · rintro H7 ⟨_, d7, row, g1, g2, g3⟩
      rw [plV_len] at d7 g2
      refine ⟨rs.map V.ref, d7.st nDp h1, by rw [List.length_map]; exact small1000 (by omega), him, ((d.trans d7).mut hD nDp).mono (by omega), rs ++ [D2], ?_, by rw [List.length_append, h2]; rfl, fun r hr => ?_⟩
      · rw [upd_same, List.map_append]
        rfl
      · rcases List.mem_append.mp hr with q | q
        · obtain ⟨a1, a2, row', a3, a4, a5⟩ := h3 r q
          exact ⟨a1, a2, row', by rw [upd_ne a2]; exact d7.st a1 a3, a4, a5⟩
        · rw [List.mem_singleton.mp q]
          exact ⟨nD2p, nD2D, row, by rw [upd_ne nD2D]; exact g1, g2, g3⟩
  · rintro H6 ⟨_, d, rs, h1, h2, h3⟩
    rw [plV_len] at d h2
    exact hd H6 ⟨rs, h1, nDp, h2, h3⟩ (d.mono (by omega))
end OG
set_option Elab.async false
set_option linter.all false
set_option maxRecDepth 100000
set_option maxHeartbeats 4000000
namespace OG
open PySem PySem.Spec PyProof.Rows L2
section
variable {X : Cx} (K : PySem.W.Frag)
theorem pi_listK {tg l : Expr} {tl : TE} (h : PE X l tl) (hK : X.K = K := by rfl) : PI X tg l (iList K tl) := hK ▸ pi_list h
theorem pi_tupK {tg l : Expr} {tl : TE} (h : PE X l tl) (hK : X.K = K := by rfl) : PI X tg l (iTup K tl) := hK ▸ pi_tup h
theorem ix_listK (hK : X.K = K := by rfl) : IxR X (rIxL K) := hK ▸ ix_list
theorem ix_tupK (hK : X.K = K := by rfl) : IxR X (rIxT K) := hK ▸ ix_tup
def rTupOf (K : PySem.W.Frag) : List V → Hp → VK → Prop := fun xs H Q => ∃ p ys, xs = [.ref p] ∧ ((SqL K H p ys ∧ ∀ l, H l = none → Q (.ref l) (upd H l (.tup ys))) ∨ (SqT K H p ys ∧ Q (.ref p) H))
theorem call_tuple_ofK (hK : X.K = K := by rfl) : CallR X (.type "tuple") (rTupOf K) := hK ▸ call_tuple_of
theorem op_in_seqK (hK : X.K = K := by rfl) : OpR X (compareOp .In) (rIn K false) := hK ▸ op_in_seq
theorem op_notIn_seqK (hK : X.K = K := by rfl) : OpR X (compareOp .NotIn) (rIn K true) := hK ▸ op_notIn_seq
def rJoin (K : PySem.W.Frag) : V → List V → Hp → VK → Prop := fun x xs H Q => ∃ a p, ∃ ys : List Str, x = .str a ∧ xs = [.ref p] ∧ (SqL K H p (ys.map V.str) ∨ SqT K H p (ys.map V.str)) ∧ (ys.map (·.length)).sum + ys.length * a.length ≤ 16777216 ∧ Q (.str (Txt.join a ys)) H
theorem mt_joinK (hK : X.K = K := by rfl) : MtR X "str.join" (rJoin K) := hK ▸ mt_join
theorem sl_listK (hK : X.K = K := by rfl) : SlR X (rSlL K) := hK ▸ sl_list
def rLenSeq (K : PySem.W.Frag) : List V → Hp → VK → Prop := fun xs H Q => ∃ p ys, xs = [.ref p] ∧ (SqL K H p ys ∨ SqT K H p ys) ∧ Q (.int ys.length) H
theorem call_len_seqK (hK : X.K = K := by rfl) : CallR X (.builtin "len") (rLenSeq K) := hK ▸ call_len_seq
theorem pg_tupK {es : List Expr} {k : Nat} {t : TGs} {n : Nat} {pos : Pos} (hc : X.calm = true) (h : PGs X es t) (hn : (assignEach es X.env).length = n := by rfl) (hst : (assignEach es X.env).findIdx? (·.1) = none := by rfl) (hK : X.K = K := by rfl) : PG X (.Tuple es k pos) (gTup K n t) := hK ▸ pg_tup hc h hn hst
end
end OG
set_option Elab.async false
set_option linter.all false
set_option maxRecDepth 100000
set_option maxHeartbeats 8000000
namespace OG
open PySem PySem.Spec PyProof.Rows L2
section
variable {P : Program} {w : World} {K : PySem.W.Frag} {mg : Str → Option Value} {base : Heap}
/-- an entry of a book's table -/
def TOk (b z : Int) : Prop := -1000000000000 ≤ z ∧ z ≤ 1000000000000 ∧ (0 < b → 0 ≤ z ∧ z < b)
/-- a tuple of m tuples of m entries -/
def Tab (b : Int) (H : Hp) (t : Addr) (m : Nat) (M : List (List Int)) : Prop := ∃ rs : List Addr, H t = some (.tup (rs.map V.ref)) ∧ rs.length = m ∧ M.length = m ∧
  (∀ (i : Nat) (r : Addr), rs[i]? = some r → ∃ row : List Int, M[i]? = some row ∧ H r = some (.tup (row.map V.int))) ∧ ∀ row ∈ M, row.length = m ∧ ∀ z ∈ row, TOk b z
theorem Tab.dr {b : Int} {p : Addr} {H H' : Hp} {t : Addr} {m k j : Nat} {M : List (List Int)} (h : Tab b H t m M) (hP : Pot j H p) (d : Dr p k H H') : Tab b H' t m M := by
  obtain ⟨rs, h1, h2, h3, h4, h5⟩ := h
  refine ⟨rs, d.st (hP.neT h1) h1, h2, h3, fun i r hr => ?_, h5⟩
  obtain ⟨row, e1, e2⟩ := h4 i r hr
  exact ⟨row, e1, d.st (hP.neT e2) e2⟩
theorem Tab.same {b : Int} {H H' : Hp} {t : Addr} {m : Nat} {M : List (List Int)} (h : Tab b H t m M) (s : Same H H') : Tab b H' t m M := by
  obtain ⟨rs, h1, h2, h3, h4, h5⟩ := h
  refine ⟨rs, s _ _ h1, h2, h3, fun i r hr => ?_, h5⟩
  obtain ⟨row, e1, e2⟩ := h4 i r hr
  exact ⟨row, e1, s _ _ e2⟩
def spTable : Sp := fun vs H Q _ => ∃ (p : Addr) (b : Int) (m k : Nat), vs = [.ref p, .int b, .int (m : Int)] ∧ Pot (k + 60) H p ∧ m ≤ 4 ∧ 1 ≤ m ∧ 0 ≤ b ∧ b ≠ 1 ∧ b ≤ 97 ∧
  ∀ (t : Addr) (M : List (List Int)) (H' : Hp), Tab b H' t m M → Dr p k H H' → H t = none → t ≠ p → Q (.ref t) H'
def R9 (z : Int) : Prop := -9 ≤ z ∧ z ≤ 9
def R12 (z : Int) : Prop := -1000000000000 ≤ z ∧ z ≤ 1000000000000
theorem r9_12 (z : Int) (h : R9 z) : R12 z := ⟨by have := h.1; omega, by have := h.2; omega⟩
theorem rx_le {x y : Int} (hx : R9 x) (hy : R9 y) : R12 (x * y) := by
  obtain ⟨a, b⟩ := hx
  obtain ⟨c, d⟩ := hy
  have h1 : (x * y).natAbs ≤ 9 * 9 := by
    rw [Int.natAbs_mul]
    exact Nat.mul_le_mul (by omega) (by omega)
  exact ⟨by omega, by omega⟩
theorem b01 (c : Bool) : R12 (if c then 1 else 0) := by
  cases c
  · exact ⟨by decide, by decide⟩
  · exact ⟨by decide, by decide⟩
theorem at_neg1 {xs : List V} {m : Nat} {v : V} (hl : xs.length = m) (hm : 1 ≤ m) (h : xs[m - 1]? = some v) : atI xs (-1) = some v := by
  have e : ixN xs.length (-1) = some (m - 1) := by
    unfold ixN
    rw [hl, if_neg (by decide), if_pos (by omega)]
    exact congrArg some (by omega)
  unfold atI
  rw [e]
  exact h
theorem ok_l_book_table (T : Txt K mg) : FnOk P w K mg base CX0 3 T.f_l_book_table T.fd_l_book_table ["pot", "by", "many"] (spTable) := by
  refine T.F_l_book_table.ok sc_l_book_table (fun vs H Q E h => ?_) (fun cdv A outer s H vs Q E hr h => ?_)
  · obtain ⟨p, b, m, k, rfl, _⟩ := h
    rfl
  · obtain ⟨p, b, m, k, rfl, hP, hm, hm1, b0, bn1, b97, q⟩ := h
    refine ⟨_, (pss_cons (ps_asg (pe_tup (pa_cons (pe_call (ok_l_take T) (hr.mono (by decide)) (by rfl) T.g_l_take T.F_l_take.kp T.b_l_take .nil pass0 (pa_cons (pv 0) (pa_cons pe_int pa_nil))) (pa_cons (pe_listRg (by rfl) (by rfl) T.n_list (prg_1 (by rfl) T.n_range (pv 2))) pa_nil))) (pg_tup (by rfl) (pgs_cons (pg_name (i := 3) sc_l_book_table.nd rfl (Or.inl rfl)) (pgs_cons (pg_name (i := 4) sc_l_book_table.nd rfl (Or.inr rfl)) pgs_nil))))
  (pss_cons (ps_asg (pe_call (ok_l_of T) (hr.mono (by decide)) (by rfl) T.g_l_of T.F_l_of.kp T.b_l_of .nil pass0 (pa_cons (pv 0) (pa_cons (pe_lst (pa_cons (pe_tup (pa_cons pe_int (pa_cons pe_int pa_nil))) (pa_cons (pe_tup (pa_cons pe_int (pa_cons pe_int pa_nil))) (pa_cons (pe_tup (pa_cons (pe_un un_neg pe_int) (pa_cons pe_int pa_nil))) (pa_cons (pe_tup (pa_cons (pe_un un_neg pe_int) (pa_cons pe_int pa_nil))) (pa_cons (pe_tup (pa_cons (pe_un un_neg pe_int) (pa_cons pe_int pa_nil))) pa_nil)))))) pa_nil))) (pg_tup (by rfl) (pgs_cons (pg_name (i := 5) sc_l_book_table.nd rfl (Or.inr rfl)) (pgs_cons (pg_name (i := 6) sc_l_book_table.nd rfl (Or.inr rfl)) pgs_nil))))
  (pss_cons (ps_set (i := 7) sc_l_book_table.nd rfl (Or.inr rfl) (pe_lc (own := [("a", 8)]) (g := gName 8) (by rfl) sc_l_book_table.nd (pi_list (pv 4)) (blkOk_by (own := [("a", 8)]) (by rfl)) (fun _ _ _ _ _ => (pg_name (i := 8) sc_l_book_table.nd rfl (Or.inl rfl))) (fun _ _ _ _ _ => pts_nil) (fun _ _ _ _ _ => (pe_lc (own := [("b", 9)]) (g := gName 9) (by rfl) sc_l_book_table.nd (pi_listK K (pv 4)) (blkOk_by (own := [("b", 9)]) (by rfl)) (fun _ _ _ _ _ => (pg_name (i := 9) sc_l_book_table.nd rfl (Or.inl rfl))) (fun _ _ _ _ _ => pts_nil) (fun _ _ _ _ _ => (pe_op op_add (pv 5) (pe_call (ok_l_take T) (hr.mono (by decide)) (by rfl) T.g_l_take T.F_l_take.kp T.b_l_take .nil pass0 (pa_cons (pv 0) (pa_cons (pe_op op_add (pe_op op_sub (pv 6) (pv 5)) pe_int) pa_nil)))))))))
  (pss_cons (ps_if (pt_cmpR op_eq (pv 3) pe_int (nomark _)) (pss_one (ps_set (i := 7) sc_l_book_table.nd rfl (Or.inr rfl) (pe_lc (own := [("a", 8)]) (g := gName 8) (by rfl) sc_l_book_table.nd (pi_list (pv 4)) (blkOk_by (own := [("a", 8)]) (by rfl)) (fun _ _ _ _ _ => (pg_name (i := 8) sc_l_book_table.nd rfl (Or.inr rfl))) (fun _ _ _ _ _ => pts_nil) (fun _ _ _ _ _ => (pe_lc (own := [("b", 9)]) (g := gName 9) (by rfl) sc_l_book_table.nd (pi_listK K (pv 4)) (blkOk_by (own := [("b", 9)]) (by rfl)) (fun _ _ _ _ _ => (pg_name (i := 9) sc_l_book_table.nd rfl (Or.inl rfl))) (fun _ _ _ _ _ => pts_nil) (fun _ _ _ _ _ => (pe_callTy call_int1 (by rfl) T.n_int (by decide +kernel) (pa_cons (pe_cmpR op_eq (pv 8) (pv 9) (nomark _)) pa_nil)))))))) (pss_one (ps_if (pt_cmpR op_eq (pv 3) pe_int (nomark _)) (pss_one (ps_set (i := 7) sc_l_book_table.nd rfl (Or.inr rfl) (pe_lc (own := [("a", 8)]) (g := gName 8) (by rfl) sc_l_book_table.nd (pi_list (pv 4)) (blkOk_by (own := [("a", 8)]) (by rfl)) (fun _ _ _ _ _ => (pg_name (i := 8) sc_l_book_table.nd rfl (Or.inr rfl))) (fun _ _ _ _ _ => pts_nil) (fun _ _ _ _ _ => (pe_lc (own := [("b", 9)]) (g := gName 9) (by rfl) sc_l_book_table.nd (pi_listK K (pv 4)) (blkOk_by (own := [("b", 9)]) (by rfl)) (fun _ _ _ _ _ => (pg_name (i := 9) sc_l_book_table.nd rfl (Or.inl rfl))) (fun _ _ _ _ _ => pts_nil) (fun _ _ _ _ _ => (pe_callTy call_int1 (by rfl) T.n_int (by decide +kernel) (pa_cons (pe_cmpR op_ne (pv 8) (pv 9) (nomark _)) pa_nil)))))))) (pss_one (ps_if (pt_cmpR op_eq (pv 3) pe_int (nomark _)) (pss_one (ps_set (i := 7) sc_l_book_table.nd rfl (Or.inr rfl) (pe_lc (own := [("a", 8)]) (g := gName 8) (by rfl) sc_l_book_table.nd (pi_list (pv 4)) (blkOk_by (own := [("a", 8)]) (by rfl)) (fun _ _ _ _ _ => (pg_name (i := 8) sc_l_book_table.nd rfl (Or.inr rfl))) (fun _ _ _ _ _ => pts_nil) (fun _ _ _ _ _ => (pe_lc (own := [("b", 9)]) (g := gName 9) (by rfl) sc_l_book_table.nd (pi_listK K (pv 4)) (blkOk_by (own := [("b", 9)]) (by rfl)) (fun _ _ _ _ _ => (pg_name (i := 9) sc_l_book_table.nd rfl (Or.inl rfl))) (fun _ _ _ _ _ => pts_nil) (fun _ _ _ _ _ => (pe_callTy call_int1 (by rfl) T.n_int (by decide +kernel) (pa_cons (pe_cmpR op_eq (pv 9) (pe_op op_mod (pe_callTy call_int1 (by rfl) T.n_int (by decide +kernel) (pa_cons (pe_op op_add (pv 8) pe_int) pa_nil)) (pv 2)) (nomark _)) pa_nil)))))))) (pss_one (ps_if (pt_cmpR op_lt (pv 3) pe_int (nomark _)) (pss_one (ps_set (i := 7) sc_l_book_table.nd rfl (Or.inr rfl) (pe_lc (own := [("a", 8)]) (g := gName 8) (by rfl) sc_l_book_table.nd (pi_list (pv 4)) (blkOk_by (own := [("a", 8)]) (by rfl)) (fun _ _ _ _ _ => (pg_name (i := 8) sc_l_book_table.nd rfl (Or.inr rfl))) (fun _ _ _ _ _ => pts_nil) (fun _ _ _ _ _ => (pe_lc (own := [("b", 9)]) (g := gName 9) (by rfl) sc_l_book_table.nd (pi_listK K (pv 4)) (blkOk_by (own := [("b", 9)]) (by rfl)) (fun _ _ _ _ _ => (pg_name (i := 9) sc_l_book_table.nd rfl (Or.inl rfl))) (fun _ _ _ _ _ => pts_nil) (fun _ _ _ _ _ => (pe_ix (ix_listK K) (pe_ix (ix_listK K) (pv 7) (pe_callB (call_min2 rfl) (by rfl) T.n_min (by decide +kernel) (pa_cons (pv 8) (pa_cons (pv 9) pa_nil))) (fun _ _ => rfl)) (pe_callB (call_max2 rfl) (by rfl) T.n_max (by decide +kernel) (pa_cons (pv 8) (pa_cons (pv 9) pa_nil))) (fun _ _ => rfl)))))))) (pss_one (ps_if (pt_cmpR op_eq (pv 3) pe_int (nomark _)) (pss_one (ps_set (i := 7) sc_l_book_table.nd rfl (Or.inr rfl) (pe_lc (own := [("a", 8)]) (g := gName 8) (by rfl) sc_l_book_table.nd (pi_list (pv 4)) (blkOk_by (own := [("a", 8)]) (by rfl)) (fun _ _ _ _ _ => (pg_name (i := 8) sc_l_book_table.nd rfl (Or.inr rfl))) (fun _ _ _ _ _ => pts_nil) (fun _ _ _ _ _ => (pe_lc (own := [("b", 9)]) (g := gName 9) (by rfl) sc_l_book_table.nd (pi_listK K (pv 4)) (blkOk_by (own := [("b", 9)]) (by rfl)) (fun _ _ _ _ _ => (pg_name (i := 9) sc_l_book_table.nd rfl (Or.inl rfl))) (fun _ _ _ _ _ => pts_nil) (fun _ _ _ _ _ => (pe_op op_mulW (pe_ix (ix_listK K) (pe_ix (ix_listK K) (pv 7) pe_int (fun _ _ => rfl)) (pv 8) (fun _ _ => rfl)) (pe_ix (ix_listK K) (pe_ix (ix_listK K) (pv 7) (pe_un un_neg pe_int) (fun _ _ => rfl)) (pv 9) (fun _ _ => rfl))))))))) (pss_one (ps_if (pt_cmpR op_eq (pv 3) pe_int (nomark _)) (pss_one (ps_set (i := 7) sc_l_book_table.nd rfl (Or.inr rfl) (pe_lc (own := [("a", 8)]) (g := gName 8) (by rfl) sc_l_book_table.nd (pi_list (pv 4)) (blkOk_by (own := [("a", 8)]) (by rfl)) (fun _ _ _ _ _ => (pg_name (i := 8) sc_l_book_table.nd rfl (Or.inl rfl))) (fun _ _ _ _ _ => pts_nil) (fun _ _ _ _ _ => (pe_lc (own := [("b", 9)]) (g := gName 9) (by rfl) sc_l_book_table.nd (pi_listK K (pv 4)) (blkOk_by (own := [("b", 9)]) (by rfl)) (fun _ _ _ _ _ => (pg_name (i := 9) sc_l_book_table.nd rfl (Or.inl rfl))) (fun _ _ _ _ _ => pts_nil) (fun _ _ _ _ _ => (pe_call (ok_l_of T) (hr.mono (by decide)) (by rfl) T.g_l_of T.F_l_of.kp T.b_l_of .nil pass0 (pa_cons (pv 0) (pa_cons (pe_lst (pa_cons (pe_op op_powW pe_int pe_int) (pa_cons (pe_un un_neg (pe_op op_powW pe_int pe_int)) (pa_cons pe_int (pa_cons pe_int (pa_cons (pe_op op_powW pe_int pe_int) pa_nil)))))) pa_nil))))))))) (pss_one (ps_if (pt_cmpR op_eq (pv 3) pe_int (nomark _)) (pss_one (ps_set (i := 7) sc_l_book_table.nd rfl (Or.inr rfl) (pe_lc (own := [("a", 8)]) (g := gName 8) (by rfl) sc_l_book_table.nd (pi_list (pv 4)) (blkOk_by (own := [("a", 8)]) (by rfl)) (fun _ _ _ _ _ => (pg_name (i := 8) sc_l_book_table.nd rfl (Or.inl rfl))) (fun _ _ _ _ _ => pts_nil) (fun _ _ _ _ _ => (pe_lc (own := [("b", 9)]) (g := gName 9) (by rfl) sc_l_book_table.nd (pi_listK K (pv 4)) (blkOk_by (own := [("b", 9)]) (by rfl)) (fun _ _ _ _ _ => (pg_name (i := 9) sc_l_book_table.nd rfl (Or.inl rfl))) (fun _ _ _ _ _ => pts_nil) (fun _ _ _ _ _ => pe_int)))))) pss_nil)))))))))))))
  (pss_one (ps_ret (pe_callTy call_tuple_of (by rfl) T.n_tuple (by decide +kernel) (pa_cons (pe_lc (own := [("row", 10)]) (g := gName 10) (by rfl) sc_l_book_table.nd (pi_list (pv 7)) (blkOk_by (own := [("row", 10)]) (by rfl)) (fun _ _ _ _ _ => (pg_name (i := 10) sc_l_book_table.nd rfl (Or.inl rfl))) (fun _ _ _ _ _ => pts_nil) (fun _ _ _ _ _ => (pe_callTy (call_tuple_ofK K) (by rfl) T.n_tuple (by decide +kernel) (pa_cons (pe_lc (own := [("n", 11)]) (g := gName 11) (by rfl) sc_l_book_table.nd (pi_listK K (pv 10)) (blkOk_by (own := [("n", 11)]) (by rfl)) (fun _ _ _ _ _ => (pg_name (i := 11) sc_l_book_table.nd rfl (Or.inl rfl))) (fun _ _ _ _ _ => pts_nil) (fun _ _ _ _ _ => (pe_ifExp (pt_cmpR op_gt (pv 1) pe_int (nomark _)) (pe_op op_mod (pe_callTy call_int1 (by rfl) T.n_int (by decide +kernel) (pa_cons (pv 11) pa_nil)) (pv 1)) (pv 11)))) pa_nil)))) pa_nil)))))))), ?_⟩
    refine ⟨.ref p, rfl, p, 10, k + 59, rfl, hP, by decide, by decide, fun way H1 w0 w1 d1 => ?_⟩
    refine ⟨.int m, rfl, m, rfl, RgOk.of_le (by decide) (by omega) (by decide) (by omega), fun pl hpl => ?_⟩
    have npl : pl ≠ p := d1.2.ne hpl
    have d2 := d1.new (o := .lst (plV m)) hpl
    refine ⟨(by show 2 ≤ sizeLine; decide), fun t1 ht1 => ?_⟩
    have d3 := d2.new (o := .tup [.int way, .ref pl]) ht1
    have hpl3 : (upd (upd H1 pl (.lst (plV m))) t1 (.tup [.int way, .ref pl])) pl = some (.lst (plV m)) := by
      rw [upd_ne (ne_new ht1).symm, upd_same]
    refine ⟨t1, _, rfl, SqT.of upd_same, rfl, _, _, rfl, _, _, rfl, rfl, ?_⟩
    refine ⟨.ref p, rfl, by decide, fun c1 hc1 => ?_⟩
    refine ⟨by decide, fun c2 hc2 => ?_⟩
    refine ⟨_, rfl, by decide, fun c3 hc3 => ?_⟩
    refine ⟨_, rfl, by decide, fun c4 hc4 => ?_⟩
    refine ⟨_, rfl, by decide, fun c5 hc5 => ?_⟩
    refine ⟨(by show 5 ≤ sizeLine; decide), fun l hl => ?_⟩
    have s1 := same_new (o := .tup [.int 0, .int 1]) hc1
    have s2 := same_new (o := .tup [.int 0, .int 1]) hc2
    have s3 := same_new (o := .tup [.int (-1), .int 1]) hc3
    have s4 := same_new (o := .tup [.int (-3), .int 3]) hc4
    have s5 := same_new (o := .tup [.int (-9), .int 9]) hc5
    have s6 := same_new (o := .lst [.ref c1, .ref c2, .ref c3, .ref c4, .ref c5]) hl
    have t6 := s6
    have t5 := s5.trans t6
    have t4 := s4.trans t5
    have t3 := s3.trans t4
    have t2 := s2.trans t3
    have t1' := s1.trans t2
    have d6 : Dr p (k + 59) H _ := ⟨d3.1.trans (Same.kp t1'), d3.2.same t1'⟩
    have nlp : l ≠ p := (d3.2.same (((((s1.trans s2).trans s3).trans s4).trans s5))).ne hl
    refine ⟨p, l, _, k + 58, rfl, d6.2.mono (by omega), SqL.of upd_same, nlp, (by show 0 < 5; decide), (by show 5 < 100000; decide), fun j x H7 hx d7 => ?_⟩
    have d67 := d6.trans d7
    have hc : ∃ (c : Addr) (lo hi : Int), x = .ref c ∧ H7 c = some (.tup [.int lo, .int hi]) ∧ -9 ≤ lo ∧ lo ≤ 0 ∧ 1 ≤ hi ∧ hi ≤ 9 := by
      have hx : [V.ref c1, V.ref c2, V.ref c3, V.ref c4, V.ref c5][j]? = some x := hx
      rcases j with _ | _ | _ | _ | _ | j
      · have u := t2 c1 _ upd_same
        exact ⟨c1, 0, 1, (Option.some.inj hx).symm, d7.st (d6.2.neT u) u, by decide, by decide, by decide, by decide⟩
      · have u := t3 c2 _ upd_same
        exact ⟨c2, 0, 1, (Option.some.inj hx).symm, d7.st (d6.2.neT u) u, by decide, by decide, by decide, by decide⟩
      · have u := t4 c3 _ upd_same
        exact ⟨c3, (-1), 1, (Option.some.inj hx).symm, d7.st (d6.2.neT u) u, by decide, by decide, by decide, by decide⟩
      · have u := t5 c4 _ upd_same
        exact ⟨c4, (-3), 3, (Option.some.inj hx).symm, d7.st (d6.2.neT u) u, by decide, by decide, by decide, by decide⟩
      · have u := t6 c5 _ upd_same
        exact ⟨c5, (-9), 9, (Option.some.inj hx).symm, d7.st (d6.2.neT u) u, by decide, by decide, by decide, by decide⟩
      · simp at hx
    obtain ⟨c, lo, hi, rfl, hcT, lo9, lo0, hi1, hi9⟩ := hc
    refine ⟨c, _, rfl, SqT.of hcT, rfl, _, _, rfl, _, _, rfl, rfl, ?_⟩
    have hpl7 : H7 pl = some (.lst (plV m)) := d7.st npl (t1' _ _ hpl3)
    refine ⟨.ref pl, rfl, pl, rfl, ⟨_, SqL.of hpl7⟩, fun S hS => ?_⟩
    refine lc_mat (sa := 8) (sb := 9) (sp := 4) (k := k + 33) R9 d7.2 hm hpl7 npl hS (fun a b j H' Q' ha hb d hq => ?_) (fun _ => rfl) (fun _ => rfl) (fun _ _ => rfl) (fun H8 hM d8 => ?_)
    · refine ⟨.int lo, rfl, .ref p, rfl, .int hi, rfl, .int lo, rfl, _, _, rfl, rfl, _, _, rfl, rfl, p, hi - lo + 1, j, rfl, d.2, by omega, by omega, fun r H4 r0 r1 d4 => ?_⟩
      exact ⟨lo, r, rfl, rfl, hq _ _ ⟨by omega, by omega⟩ d4⟩
    have d08 := d67.trans d8
    have hpl8 : H8 pl = some (.lst (plV m)) := d8.st npl hpl7
    dsimp only [gName]
    refine seq_fin (fun σ' H' => ∃ (S : Addr), σ' = [some (.ref p), some (.int b), some (.int m), some (.int way), some (.ref pl), some (.int lo), some (.int hi), some (.ref S), none, none, none, none] ∧ Mat R12 p H' S m ∧ Dr p k H H') ?_ (fun fin => ?_)
    · rintro σ' H' ⟨S, rfl, ⟨rs, h1, nSp, h3, h4⟩, d⟩
      refine ⟨.ref S, rfl, S, rfl, ⟨_, SqL.of h1⟩, fun D hD => ?_⟩
      refine lc_list (K := K) (a := S) (xs := rs.map V.ref) (fun i H2 => i ≤ m ∧ Same H' H2 ∧ ∃ (qs : List Addr) (M : List (List Int)), H2 D = some (.lst (qs.map V.ref)) ∧ qs.length = i ∧ M.length = i ∧
          (∀ (j : Nat) (q : Addr), qs[j]? = some q → q ≠ D ∧ ∃ row : List Int, M[j]? = some row ∧ H2 q = some (.tup (row.map V.int))) ∧ ∀ row ∈ M, row.length = m ∧ ∀ z ∈ row, TOk b z)
        ⟨Nat.zero_le _, same_new hD, [], [], upd_same, rfl, rfl, fun j q h => by simp at h, fun _ h => by cases h⟩ (fun i H2 _ ⟨_, s, _⟩ => SqL.of (s _ _ h1)) ?_ ?_
      · rintro i x H2 hx ⟨_, s, qs, M, g1, g2, g3, g4, g5⟩
        have him : i < m := by
          have := (List.getElem?_eq_some_iff.mp hx).1
          rw [List.length_map] at this
          omega
        have hr : rs[i]? = some (rs[i]'(by omega)) := List.getElem?_eq_getElem (by omega)
        obtain ⟨nrp, nrS, row, e1, e2, e3⟩ := h4 _ (List.mem_of_getElem? hr)
        have ex : x = .ref (rs[i]'(by omega)) := by
          rw [List.getElem?_map, hr] at hx
          exact (Option.some.inj hx).symm
        subst ex
        refine ⟨rfl, ?_⟩
        refine ⟨_, rfl, _, rfl, ⟨_, SqL.of (s _ _ e1)⟩, fun D2 hD2 => ?_⟩
        refine lc_list (K := K) (a := rs[i]'(by omega)) (xs := row.map V.int) (fun j H3 => j ≤ m ∧ Same H2 H3 ∧ ∃ zs : List Int, H3 D2 = some (.lst (zs.map V.int)) ∧ zs.length = j ∧ ∀ z ∈ zs, TOk b z)
          ⟨Nat.zero_le _, same_new hD2, [], upd_same, rfl, fun _ h => by cases h⟩ (fun j H3 _ ⟨_, s3, _⟩ => SqL.of (s3 _ _ (s _ _ e1))) ?_ ?_
        · rintro j x H3 hx ⟨_, s3, zs, f1, f2, f3⟩
          have hjm : j < m := by
            have := (List.getElem?_eq_some_iff.mp hx).1
            rw [List.length_map] at this
            omega
          obtain ⟨z, hz, rfl⟩ := at_of hx
          obtain ⟨z1, z2⟩ := e3 z hz
          refine ⟨rfl, ?_⟩
          have go : ∀ y : Int, TOk b y → ∃ acc, H3 D2 = some (.lst acc) ∧ acc.length < sizeLine ∧ j + 1 ≤ m ∧ Same H2 (upd H3 D2 (.lst (acc ++ [V.int y]))) ∧ ∃ zs : List Int, (upd H3 D2 (.lst (acc ++ [V.int y]))) D2 = some (.lst (zs.map V.int)) ∧ zs.length = j + 1 ∧ ∀ z ∈ zs, TOk b z := fun y hy => by
            refine ⟨_, f1, by rw [List.length_map]; exact small1000 (by omega), hjm, fun a o ho => ?_, zs ++ [y], ?_, by rw [List.length_append, f2]; rfl, fun u hu => ?_⟩
            · rw [upd_ne (ne_of_none ho hD2)]
              exact s3 _ _ ho
            · rw [upd_same, List.map_append]
              rfl
            · rcases List.mem_append.mp hu with v | v
              · exact f3 u v
              · rw [List.mem_singleton.mp v]
                exact hy
          refine ⟨.int b, rfl, _, _, rfl, rfl, _, rfl, ite2 (fun hb => ?_) (fun hb => ?_)⟩
          · have hb : 0 < b := of_decide_eq_true hb
            refine ⟨_, rfl, .inl ⟨_, rfl, ?_⟩⟩
            refine ⟨.int b, rfl, _, _, rfl, rfl, hb, ?_⟩
            have m0 := Int.emod_nonneg z (show b ≠ 0 by omega)
            have m1 := Int.emod_lt_of_pos z hb
            exact go _ ⟨by omega, by omega, fun _ => ⟨m0, m1⟩⟩
          · have hb : ¬ 0 < b := of_decide_eq_false (Bool.eq_false_iff.mpr hb)
            exact ⟨_, rfl, go _ ⟨z1, z2, fun h => absurd h hb⟩⟩
        · rintro H3 ⟨_, s3, zs, f1, f2, f3⟩
          rw [List.length_map, e2] at f2
          refine ⟨D2, _, rfl, .inl ⟨SqL.of f1, fun t ht => ?_⟩⟩
          have s4 := s3.trans (same_new (o := .tup (zs.map V.int)) ht)
          have nDt : D ≠ t := ne_of_none (s3 _ _ g1) ht
          refine ⟨_, s4 _ _ g1, by rw [List.length_map]; exact small1000 (by omega), him, fun a o ho => ?_, qs ++ [t], M ++ [zs], ?_, by rw [List.length_append, g2]; rfl, by rw [List.length_append, g3]; rfl, fun j q hq => ?_, fun r hr => ?_⟩
          · rw [upd_ne (ne_of_none ho hD)]
            exact s4 _ _ (s _ _ ho)
          · rw [upd_same, List.map_append]
            rfl
          · by_cases hj : j < qs.length
            · rw [List.getElem?_append_left hj] at hq
              obtain ⟨k1, row', k2, k3⟩ := g4 j q hq
              exact ⟨k1, row', by rw [List.getElem?_append_left (by omega)]; exact k2, by rw [upd_ne k1]; exact s4 _ _ k3⟩
            · rw [List.getElem?_append_right (by omega)] at hq
              have hj0 : j - qs.length = 0 := by
                have := (List.getElem?_eq_some_iff.mp hq).1
                simp only [List.length_singleton] at this
                omega
              rw [hj0] at hq
              have eq : t = q := Option.some.inj hq
              subst eq
              refine ⟨nDt.symm, zs, ?_, by rw [upd_ne nDt.symm, upd_same]⟩
              rw [List.getElem?_append_right (by omega), show j - M.length = 0 by omega]
              rfl
          · rcases List.mem_append.mp hr with v | v
            · exact g5 r v
            · rw [List.mem_singleton.mp v]
              exact ⟨f2, f3⟩
      · rintro H2 ⟨_, s, qs, M, g1, g2, g3, g4, g5⟩
        rw [List.length_map, h3] at g2 g3
        refine ⟨D, _, rfl, .inl ⟨SqL.of g1, fun t ht => ?_⟩⟩
        have s2 := s.trans (same_new (o := .tup (qs.map V.ref)) ht)
        refine q t M _ ⟨qs, upd_same, g2, g3, fun i r hr => ?_, g5⟩ ⟨d.1.trans (Same.kp s2), d.2.same s2⟩ (d.fr (s.free ht)) ((d.2.same s).ne ht)
        obtain ⟨k1, row, k2, k3⟩ := g4 i r hr
        exact ⟨row, k2, by rw [upd_ne (ne_of_none k3 ht)]; exact k3⟩
    · refine ⟨.int way, rfl, rfl, _, rfl, ite2 (fun _ => ?_) (fun _ => ?_)⟩
      · refine ⟨.ref pl, rfl, pl, rfl, ⟨_, SqL.of hpl8⟩, fun S2 hS2 => ?_⟩
        refine lc_mat (sa := 8) (sb := 9) (sp := 4) (k := k + 5) R12 (d8.2.mono (by omega)) hm hpl8 npl hS2 (fun a c j H' Q' ha hc d hq => ?_) (fun _ => rfl) (fun _ => rfl) (fun _ _ => rfl) (fun H9 hM9 d9 => fin _ _ ⟨S2, rfl, hM9, (d08.trans d9).mono (by omega)⟩)
        refine ⟨.int a, rfl, .int c, rfl, rfl, ?_⟩
        exact .inr ⟨_, rfl, hq _ _ (b01 _) (Dr.start d.2 (by omega))⟩
      · refine ⟨.int way, rfl, rfl, _, rfl, ite2 (fun _ => ?_) (fun _ => ?_)⟩
        · refine ⟨.ref pl, rfl, pl, rfl, ⟨_, SqL.of hpl8⟩, fun S2 hS2 => ?_⟩
          refine lc_mat (sa := 8) (sb := 9) (sp := 4) (k := k + 5) R12 (d8.2.mono (by omega)) hm hpl8 npl hS2 (fun a c j H' Q' ha hc d hq => ?_) (fun _ => rfl) (fun _ => rfl) (fun _ _ => rfl) (fun H9 hM9 d9 => fin _ _ ⟨S2, rfl, hM9, (d08.trans d9).mono (by omega)⟩)
          refine ⟨.int a, rfl, .int c, rfl, rfl, ?_⟩
          exact .inr ⟨_, rfl, hq _ _ (b01 _) (Dr.start d.2 (by omega))⟩
        · refine ⟨.int way, rfl, rfl, _, rfl, ite2 (fun _ => ?_) (fun _ => ?_)⟩
          · refine ⟨.ref pl, rfl, pl, rfl, ⟨_, SqL.of hpl8⟩, fun S2 hS2 => ?_⟩
            refine lc_mat (sa := 8) (sb := 9) (sp := 4) (k := k + 5) R12 (d8.2.mono (by omega)) hm hpl8 npl hS2 (fun a c j H' Q' ha hc d hq => ?_) (fun _ => rfl) (fun _ => rfl) (fun _ _ => rfl) (fun H9 hM9 d9 => fin _ _ ⟨S2, rfl, hM9, (d08.trans d9).mono (by omega)⟩)
            refine ⟨.int c, rfl, .int a, rfl, _, _, rfl, rfl, .inl ⟨_, rfl, ?_⟩⟩
            refine ⟨.int m, rfl, _, _, rfl, rfl, (by show (0 : Int) < m; omega), rfl, ?_⟩
            exact .inr ⟨_, rfl, hq _ _ (b01 _) (Dr.start d.2 (by omega))⟩
          · refine ⟨.int way, rfl, _, _, rfl, rfl, _, rfl, ite2 (fun _ => ?_) (fun _ => ?_)⟩
            · refine ⟨.ref pl, rfl, pl, rfl, ⟨_, SqL.of hpl8⟩, fun S2 hS2 => ?_⟩
              refine lc_mat (sa := 8) (sb := 9) (sp := 4) (k := k + 5) R12 (d8.2.mono (by omega)) hm hpl8 npl hS2 (fun a c j H' Q' ha hc d hq => ?_) (fun _ => rfl) (fun _ => rfl) (fun _ _ => rfl) (fun H9 hM9 d9 => fin _ _ ⟨S2, rfl, hM9, (d08.trans d9).mono (by omega)⟩)
              have hM' := hM.dr d
              obtain ⟨x1, hx1, hx2⟩ : ∃ x : Nat, x < m ∧ (if ((c : Nat) : Int) < ((a : Nat) : Int) then ((c : Nat) : Int) else ((a : Nat) : Int)) = (x : Int) := by
                by_cases e : ((c : Nat) : Int) < ((a : Nat) : Int)
                · exact ⟨c, hc, if_pos e⟩
                · exact ⟨a, ha, if_neg e⟩
              obtain ⟨y1, hy1, hy2⟩ : ∃ x : Nat, x < m ∧ (if ((c : Nat) : Int) > ((a : Nat) : Int) then ((c : Nat) : Int) else ((a : Nat) : Int)) = (x : Int) := by
                by_cases e : ((c : Nat) : Int) > ((a : Nat) : Int)
                · exact ⟨c, hc, if_pos e⟩
                · exact ⟨a, ha, if_neg e⟩
              obtain ⟨rs, r, row, m1, m2, m3, m4, m5, m6⟩ := hM'.row hx1
              obtain ⟨z, z1, z2⟩ := row_at m5 m6 hy1
              refine ⟨.ref S, rfl, .int a, rfl, .int c, rfl, _, _, rfl, ?_⟩
              refine ⟨S, _, (x1 : Int), _, rfl, congrArg V.int hx2, SqL.of m1, atI_nat m3, ?_⟩
              refine ⟨.int a, rfl, .int c, rfl, _, _, rfl, ?_⟩
              refine ⟨r, _, (y1 : Int), _, rfl, congrArg V.int hy2, SqL.of m4, atI_nat z1, ?_⟩
              exact hq _ _ (r9_12 _ z2) (Dr.start d.2 (by omega))
            · refine ⟨.int way, rfl, rfl, _, rfl, ite2 (fun _ => ?_) (fun _ => ?_)⟩
              · refine ⟨.ref pl, rfl, pl, rfl, ⟨_, SqL.of hpl8⟩, fun S2 hS2 => ?_⟩
                refine lc_mat (sa := 8) (sb := 9) (sp := 4) (k := k + 5) R12 (d8.2.mono (by omega)) hm hpl8 npl hS2 (fun a c j H' Q' ha hc d hq => ?_) (fun _ => rfl) (fun _ => rfl) (fun _ _ => rfl) (fun H9 hM9 d9 => fin _ _ ⟨S2, rfl, hM9, (d08.trans d9).mono (by omega)⟩)
                have hM' := hM.dr d
                obtain ⟨rs, r, row, m1, m2, m3, m4, m5, m6⟩ := hM'.row (show 0 < m by omega)
                obtain ⟨z, z1, z2⟩ := row_at m5 m6 ha
                obtain ⟨rs', r', row', m1', m2', m3', m4', m5', m6'⟩ := hM'.row (show m - 1 < m by omega)
                obtain ⟨y, y1, y2⟩ := row_at m5' m6' hc
                have nb := rx_le z2 y2
                refine ⟨.ref S, rfl, S, _, ((0 : Nat) : Int), _, rfl, rfl, SqL.of m1, atI_nat m3, ?_⟩
                refine ⟨.int a, rfl, r, _, (a : Int), _, rfl, rfl, SqL.of m4, atI_nat z1, ?_⟩
                refine ⟨.ref S, rfl, _, rfl, S, _, _, _, rfl, rfl, SqL.of m1', at_neg1 (by rw [List.length_map, m2']) hm1 m3', ?_⟩
                refine ⟨.int c, rfl, r', _, (c : Int), _, rfl, rfl, SqL.of m4', atI_nat y1, ?_⟩
                refine ⟨_, _, rfl, rfl, wide_mul (a := 10) (b := 10) (by have := z2.1; have := z2.2; omega) (by have := y2.1; have := y2.2; omega) (by decide) (by decide) (by decide), ?_⟩
                exact hq _ _ nb (Dr.start d.2 (by omega))
              · refine ⟨.int way, rfl, rfl, _, rfl, ite2 (fun _ => ?_) (fun _ => ?_)⟩
                · refine ⟨.ref pl, rfl, pl, rfl, ⟨_, SqL.of hpl8⟩, fun S2 hS2 => ?_⟩
                  refine lc_mat (sa := 8) (sb := 9) (sp := 4) (k := k + 5) R12 (d8.2.mono (by omega)) hm hpl8 npl hS2 (fun a c j H' Q' ha hc d hq => ?_) (fun _ => rfl) (fun _ => rfl) (fun _ _ => rfl) (fun H9 hM9 d9 => fin _ _ ⟨S2, rfl, hM9, (d08.trans d9).mono (by omega)⟩)
                  refine ⟨.ref p, rfl, _, _, rfl, rfl, pow_c (by decide), _, _, rfl, rfl, pow_c (by decide), _, rfl, _, _, rfl, rfl, pow_c (by decide), by decide, fun l hl => ?_⟩
                  have nlp : l ≠ p := d.2.ne hl
                  refine ⟨p, l, _, j, rfl, d.2.same (same_new hl), SqL.of upd_same, nlp, by decide, by decide, fun e x H4 hx d4 => ?_⟩
                  have d5 : Dr p j H' H4 := (Dr.new (Dr.start d.2 (Nat.le_refl _)) hl).trans d4
                  have hx : [V.int 1000000000000, V.int (-1000000000000), V.int 0, V.int 1, V.int 1000000][e]? = some x := hx
                  rcases e with _ | _ | _ | _ | _ | e
                  · have ex := Option.some.inj hx
                    rw [← ex]
                    exact hq _ _ ⟨by decide, by decide⟩ d5
                  · have ex := Option.some.inj hx
                    rw [← ex]
                    exact hq _ _ ⟨by decide, by decide⟩ d5
                  · have ex := Option.some.inj hx
                    rw [← ex]
                    exact hq _ _ ⟨by decide, by decide⟩ d5
                  · have ex := Option.some.inj hx
                    rw [← ex]
                    exact hq _ _ ⟨by decide, by decide⟩ d5
                  · have ex := Option.some.inj hx
                    rw [← ex]
                    exact hq _ _ ⟨by decide, by decide⟩ d5
                  · simp at hx
                · refine ⟨.int way, rfl, rfl, _, rfl, ite2 (fun _ => ?_) (fun _ => ?_)⟩
                  · refine ⟨.ref pl, rfl, pl, rfl, ⟨_, SqL.of hpl8⟩, fun S2 hS2 => ?_⟩
                    refine lc_mat (sa := 8) (sb := 9) (sp := 4) (k := k + 5) R12 (d8.2.mono (by omega)) hm hpl8 npl hS2 (fun a c j H' Q' ha hc d hq => ?_) (fun _ => rfl) (fun _ => rfl) (fun _ _ => rfl) (fun H9 hM9 d9 => fin _ _ ⟨S2, rfl, hM9, (d08.trans d9).mono (by omega)⟩)
                    exact hq _ _ ⟨by decide, by decide⟩ (Dr.start d.2 (by omega))
                  · exact fin _ _ ⟨S, rfl, hM.imp r9_12, d08.mono (by omega)⟩
end
end OG
set_option Elab.async false
set_option linter.all false
set_option maxRecDepth 100000
set_option maxHeartbeats 4000000
namespace OG
open PySem PySem.Spec PyProof.Rows L2
theorem merge_new : ∀ {more kvs : List (Key × V)}, (more.map (·.1)).Nodup → (∀ kv ∈ more, valV kvs kv.1 = none) → mergeK kvs more = kvs ++ more
  | [], kvs, _, _ => by
    rw [List.append_nil]
    rfl
  | kv :: r, kvs, h, hn => by
    rw [List.map_cons, List.nodup_cons] at h
    have e : mergeK kvs (kv :: r) = mergeK (putK kvs kv.1 kv.2) r := rfl
    have e1 := putK_new kv.2 (hn kv List.mem_cons_self)
    rw [e, e1, merge_new h.2 fun x hx => ?_, List.append_assoc]
    · rfl
    · rw [valV_snoc _ _ _ _ (hn kv List.mem_cons_self), if_neg fun z => h.1 (by rw [← z]; exact List.mem_map_of_mem hx)]
      exact hn x (List.mem_cons_of_mem _ hx)
theorem merge0 {more : List (Key × V)} (h : (more.map (·.1)).Nodup) : mergeK [] more = more := by
  rw [merge_new h fun _ _ => rfl]
  rfl
theorem dget {H : Hp} {o : Addr} {kvs : List (Key × V)} {s : Str} {v : V} (h : H o = some (.dK kvs)) (hv : valV kvs (.inr s) = some v) : DGet H o (.str s) (some v) := .inl ⟨kvs, .inr s, .inl h, rfl, hv.symm⟩
theorem putK_nd {kvs : List (Key × V)} {k : Key} {v : V} (h : (kvs.map (·.1)).Nodup) : ((putK kvs k v).map (·.1)).Nodup := by
  unfold putK
  split
  · rw [List.map_map, show ((fun x : Key × V => x.1) ∘ fun kv => if kv.1 = k then (kv.1, v) else kv) = (fun x => x.1) from funext fun kv => by
      show (if kv.1 = k then (kv.1, v) else kv).1 = kv.1
      split <;> rfl]
    exact h
  · rename_i e
    rw [List.map_append, List.nodup_append]
    refine ⟨h, by simp, fun a ha b hb z => ?_⟩
    obtain ⟨kv, h1, rfl⟩ := List.mem_map.mp ha
    have eb : b = k := by simpa using hb
    exact e (List.any_eq_true.mpr ⟨kv, h1, decide_eq_true (z.trans eb)⟩)
/-- what is right of a drawn book -/
structure BkOk (b : Int) (m : Nat) (ms : List Str) (ws : List Int) (ks : List Str) (Ms : List (List (List Int))) : Prop where
  b0 : 0 ≤ b
  b1 : b ≠ 1
  b97 : b ≤ 97
  m1 : 1 ≤ m
  m4 : m ≤ 4
  nm : Nms ms m
  wl : ws.length = m
  w : ∀ z ∈ ws, WOk b z
  nk : Nms ks ks.length
  k1 : 1 ≤ ks.length
  k3 : ks.length ≤ 3
  ml : Ms.length = ks.length
def TabsAt (b : Int) (m : Nat) (H : Hp) (td : Addr) (ks : List Str) (Ms : List (List (List Int))) : Prop := ∃ tkvs : List (Key × V), H td = some (.dK tkvs) ∧ (tkvs.map (·.1)).Nodup ∧ tkvs.length ≤ 10 ∧
  ∀ (i : Nat) (k : Str), ks[i]? = some k → ∃ (t : Addr) (M : List (List Int)), valV tkvs (.inr k) = some (.ref t) ∧ Ms[i]? = some M ∧ Tab b H t m M
/-- the dict of a drawn book -/
def BookAt (H : Hp) (o : Addr) (b : Int) (m : Nat) (ms : List Str) (ws : List Int) (ks : List Str) (Ms : List (List (List Int))) : Prop := ∃ (kvs : List (Key × V)) (tm tw tk td : Addr),
  H o = some (.dK kvs) ∧ kvs.length ≤ 10 ∧ valV kvs (.inr "by") = some (.int b) ∧ valV kvs (.inr "marks") = some (.ref tm) ∧ H tm = some (.tup (ms.map V.str)) ∧ valV kvs (.inr "weights") = some (.ref tw) ∧ H tw = some (.tup (ws.map V.int)) ∧
  valV kvs (.inr "kinds") = some (.ref tk) ∧ H tk = some (.tup (ks.map V.str)) ∧ valV kvs (.inr "tables") = some (.ref td) ∧ TabsAt b m H td ks Ms
theorem TabsAt.same {b : Int} {m : Nat} {H H' : Hp} {td : Addr} {ks : List Str} {Ms : List (List (List Int))} (h : TabsAt b m H td ks Ms) (s : Same H H') : TabsAt b m H' td ks Ms := by
  obtain ⟨tkvs, h1, hn, hl, h2⟩ := h
  refine ⟨tkvs, s _ _ h1, hn, hl, fun i k hk => ?_⟩
  obtain ⟨t, M, e1, e2, e3⟩ := h2 i k hk
  exact ⟨t, M, e1, e2, e3.same s⟩
theorem TabsAt.dr {b : Int} {m : Nat} {H H' : Hp} {p td : Addr} {j k : Nat} {ks : List Str} {Ms : List (List (List Int))} (h : TabsAt b m H td ks Ms) (hP : Pot j H p) (d : Dr p k H H') : TabsAt b m H' td ks Ms := by
  obtain ⟨tkvs, h1, hn, hl, h2⟩ := h
  refine ⟨tkvs, d.st (hP.neD h1) h1, hn, hl, fun i k hk => ?_⟩
  obtain ⟨t, M, e1, e2, e3⟩ := h2 i k hk
  exact ⟨t, M, e1, e2, e3.dr hP d⟩
theorem BookAt.same {H H' : Hp} {o : Addr} {b : Int} {m : Nat} {ms ks : List Str} {ws : List Int} {Ms : List (List (List Int))} (h : BookAt H o b m ms ws ks Ms) (s : Same H H') : BookAt H' o b m ms ws ks Ms := by
  obtain ⟨kvs, tm, tw, tk, td, h1, h2, h3, h4, h5, h6, h7, h8, h9, h10, h11⟩ := h
  exact ⟨kvs, tm, tw, tk, td, s _ _ h1, h2, h3, h4, s _ _ h5, h6, s _ _ h7, h8, s _ _ h9, h10, h11.same s⟩
theorem BookAt.dr {H H' : Hp} {p o : Addr} {b : Int} {m j k : Nat} {ms ks : List Str} {ws : List Int} {Ms : List (List (List Int))} (h : BookAt H o b m ms ws ks Ms) (hP : Pot j H p) (d : Dr p k H H') : BookAt H' o b m ms ws ks Ms := by
  obtain ⟨kvs, tm, tw, tk, td, h1, h2, h3, h4, h5, h6, h7, h8, h9, h10, h11⟩ := h
  exact ⟨kvs, tm, tw, tk, td, d.st (hP.neD h1) h1, h2, h3, h4, d.st (hP.neT h5) h5, h6, d.st (hP.neT h7) h7, h8, d.st (hP.neT h9) h9, h10, h11.dr hP d⟩
def dict5 (b : Int) (tm tw tk td : Addr) : List (Key × V) := [(.inr "by", .int b), (.inr "marks", .ref tm), (.inr "weights", .ref tw), (.inr "kinds", .ref tk), (.inr "tables", .ref td)]
theorem dict5_nd (b : Int) (tm tw tk td : Addr) : ((dict5 b tm tw tk td).map (·.1)).Nodup := by
  show ([.inr "by", .inr "marks", .inr "weights", .inr "kinds", .inr "tables"] : List Key).Nodup
  decide +kernel
theorem k_ne {a b : Str} (h : ¬ a = b) : ¬ (Sum.inr a : Key) = Sum.inr b := fun z => h (Sum.inr.inj z)
theorem dict5_at (b : Int) (tm tw tk td : Addr) : valV (dict5 b tm tw tk td) (.inr "by") = some (.int b) ∧ valV (dict5 b tm tw tk td) (.inr "marks") = some (.ref tm) ∧ valV (dict5 b tm tw tk td) (.inr "weights") = some (.ref tw) ∧
    valV (dict5 b tm tw tk td) (.inr "kinds") = some (.ref tk) ∧ valV (dict5 b tm tw tk td) (.inr "tables") = some (.ref td) := by
  unfold dict5
  refine ⟨valV_pos rfl, ?_, ?_, ?_, ?_⟩
  · rw [valV_neg (k_ne (by decide +kernel)), valV_pos rfl]
  · rw [valV_neg (k_ne (by decide +kernel)), valV_neg (k_ne (by decide +kernel)), valV_pos rfl]
  · rw [valV_neg (k_ne (by decide +kernel)), valV_neg (k_ne (by decide +kernel)), valV_neg (k_ne (by decide +kernel)), valV_pos rfl]
  · rw [valV_neg (k_ne (by decide +kernel)), valV_neg (k_ne (by decide +kernel)), valV_neg (k_ne (by decide +kernel)), valV_neg (k_ne (by decide +kernel)), valV_pos rfl]
end OG
set_option Elab.async false
set_option linter.all false
set_option maxRecDepth 100000
set_option maxHeartbeats 8000000
namespace OG
open PySem PySem.Spec PyProof.Rows L2
section
variable {P : Program} {w : World} {K : PySem.W.Frag} {mg : Str → Option Value} {base : Heap}
def spTwin : Sp := fun vs H Q _ => ∃ (o : Addr) (x y : Nat) (b : Int) (m : Nat) (ms ks : List Str) (ws : List Int) (Ms : List (List (List Int))), vs = [.ref o, .int (x : Int), .int (y : Int)] ∧ BookAt H o b m ms ws ks Ms ∧ BkOk b m ms ws ks Ms ∧ x < m ∧
  ∀ (q : Addr) (Ms' : List (List (List Int))) (H' : Hp), Same H H' → H q = none → BookAt H' q b m ms ws ks Ms' → BkOk b m ms ws ks Ms' → Q (.ref q) H'
/-- the rows at the places of the list -/
theorem Tab.at {b : Int} {H : Hp} {t : Addr} {m : Nat} {M : List (List Int)} (h : Tab b H t m M) {i j : Nat} (hi : i < m) (hj : j < m) : ∃ (rs : List V) (r : Addr) (row : List Int) (z : Int), H t = some (.tup rs) ∧ rs[i]? = some (.ref r) ∧ H r = some (.tup (row.map V.int)) ∧ (row.map V.int)[j]? = some (.int z) ∧ TOk b z := by
  obtain ⟨rs, h1, h2, h3, h4, h5⟩ := h
  have hr : rs[i]? = some (rs[i]'(by omega)) := List.getElem?_eq_getElem (by omega)
  obtain ⟨row, e1, e2⟩ := h4 i _ hr
  obtain ⟨f1, f2⟩ := h5 row (List.mem_of_getElem? e1)
  obtain ⟨z, z1, z2⟩ := row_at f1 f2 hj
  refine ⟨_, _, row, z, h1, ?_, e2, z1, z2⟩
  rw [List.getElem?_map, hr]
  rfl
theorem nat_at {ns : List Nat} {i : Nat} {x : V} (h : (ns.map fun (n : Nat) => V.int (n : Int))[i]? = some x) : ∃ n, n ∈ ns ∧ x = .int (n : Int) := by
  rw [List.getElem?_map] at h
  cases e : ns[i]? with
  | none =>
    rw [e] at h
    cases h
  | some n =>
    rw [e] at h
    exact ⟨n, List.mem_of_getElem? e, (Option.some.inj h).symm⟩
theorem ok_l_book_twinned (T : Txt K mg) : FnOk P w K mg base CX0 1 T.f_l_book_twinned T.fd_l_book_twinned ["own", "one", "other"] (spTwin) := by
  refine T.F_l_book_twinned.ok sc_l_book_twinned (fun vs H Q E h => ?_) (fun cdv A outer s H vs Q E hr h => ?_)
  · obtain ⟨o, x, y, b, m, ms, ks, ws, Ms, rfl, _⟩ := h
    rfl
  · obtain ⟨o, x, y, b, m, ms, ks, ws, Ms, rfl, hB, ok, hx, q⟩ := h
    refine ⟨_, (pss_cons (ps_asg (pe_tup (pa_cons pe_dnewK (pa_cons (pe_lc (own := [("at", 6)]) (g := gName 6) (by rfl) sc_l_book_twinned.nd (pi_range1 (by rfl) T.n_range (pa_cons (pe_callB call_len_seq (by rfl) T.n_len PySem.boot_len (pa_cons (pe_dget (hu_of hr) (pv 0) pe_str (fun _ _ => rfl)) pa_nil)) pa_nil)) (blkOk_by (own := [("at", 6)]) (by rfl)) (fun _ _ _ _ _ => (pg_name (i := 6) sc_l_book_twinned.nd rfl (Or.inl rfl))) (fun _ _ _ _ _ => pts_nil) (fun _ _ _ _ _ => (pe_ifExp (pt_cmpR op_eq (pv 6) (pv 2) (nomark _)) (pv 1) (pv 6)))) pa_nil))) (pg_tup (by rfl) (pgs_cons (pg_name (i := 3) sc_l_book_twinned.nd rfl (Or.inl rfl)) (pgs_cons (pg_name (i := 4) sc_l_book_twinned.nd rfl (Or.inr rfl)) pgs_nil))))
  (pss_cons (ps_for PassesOwn.never rfl (pi_tup (pe_dget (hu_of hr) (pv 0) pe_str (fun _ _ => rfl))) (pg_name (i := 5) sc_l_book_twinned.nd rfl (Or.inr rfl)) (pss_one (ps_dput (hu_of hr) (pv 3) (pv 5) (pe_callTy call_tuple_of (by rfl) T.n_tuple (by decide +kernel) (pa_cons (pe_lc (own := [("a", 7)]) (g := gName 7) (by rfl) sc_l_book_twinned.nd (pi_list (pv 4)) (blkOk_by (own := [("a", 7)]) (by rfl)) (fun _ _ _ _ _ => (pg_name (i := 7) sc_l_book_twinned.nd rfl (Or.inr rfl))) (fun _ _ _ _ _ => pts_nil) (fun _ _ _ _ _ => (pe_callTy (call_tuple_ofK K) (by rfl) T.n_tuple (by decide +kernel) (pa_cons (pe_lc (own := [("b", 8)]) (g := gName 8) (by rfl) sc_l_book_twinned.nd (pi_listK K (pv 4)) (blkOk_by (own := [("b", 8)]) (by rfl)) (fun _ _ _ _ _ => (pg_name (i := 8) sc_l_book_twinned.nd rfl (Or.inl rfl))) (fun _ _ _ _ _ => pts_nil) (fun _ _ _ _ _ => (pe_ix (ix_tupK K) (pe_ix (ix_tupK K) (pe_dget (hu_of hr) (pe_dget (hu_of hr) (pv 0) pe_str (fun _ _ => rfl)) (pv 5) (fun _ _ => rfl)) (pv 7) (fun _ _ => rfl)) (pv 8) (fun _ _ => rfl)))) pa_nil)))) pa_nil)) rfl)))
  (pss_one (ps_ret (pe_disp (pps_cons pe_str (pe_dget (hu_of hr) (pv 0) pe_str (fun _ _ => rfl)) (pps_cons pe_str (pe_dget (hu_of hr) (pv 0) pe_str (fun _ _ => rfl)) (pps_cons pe_str (pe_dget (hu_of hr) (pv 0) pe_str (fun _ _ => rfl)) (pps_cons pe_str (pe_dget (hu_of hr) (pv 0) pe_str (fun _ _ => rfl)) (pps_cons pe_str (pv 3) pps_nil))))) (by rfl) (by rfl) (fun z => by cases z) (by decide)))))), ?_⟩
    have hm4 := ok.m4
    have hm1 := ok.m1
    have hk3 := ok.k3
    obtain ⟨kvs, tm, tw, tk, td, hO, hl10, v1, v2, hT2, v3, hT3, v4, hT4, v5, tkvs, hTd, tnd, tln, tabs⟩ := id hB
    refine fun d hd => ?_
    have s1 := same_new (o := .dK []) hd
    refine ⟨.ref o, rfl, o, _, rfl, dget (s1 _ _ hO) v2, tm, _, rfl, .inr (SqT.of (s1 _ _ hT2)), ?_⟩
    rw [List.length_map, ok.nm.len]
    refine ⟨(m : Int), rfl, by omega, by omega, fun pl hpl => ?_⟩
    rw [show ((m : Int)).toNat = m from rfl]
    have nod : o ≠ d := ne_of_none hO hd
    refine lc_range (lo := 0) (n := m) (fun i H' => i ≤ m ∧ Same (upd H d (.dK [])) H' ∧ ∃ ns : List Nat, H' pl = some (.lst (ns.map fun (n : Nat) => V.int (n : Int))) ∧ ns.length = i ∧ ∀ n ∈ ns, n < m) ⟨Nat.zero_le _, same_new hpl, [], upd_same, rfl, fun _ h => by cases h⟩ ?_ ?_
    · rintro i H' hi ⟨_, s2, ns, g1, g2, g3⟩
      have go : ∀ n : Nat, n < m → ∃ acc, H' pl = some (.lst acc) ∧ acc.length < sizeLine ∧ i + 1 ≤ m ∧ Same (upd H d (.dK [])) (upd H' pl (.lst (acc ++ [V.int (n : Int)]))) ∧ ∃ ns : List Nat, (upd H' pl (.lst (acc ++ [V.int (n : Int)]))) pl = some (.lst (ns.map fun (n : Nat) => V.int (n : Int))) ∧ ns.length = i + 1 ∧ ∀ n ∈ ns, n < m := fun n hn => by
        refine ⟨_, g1, by rw [List.length_map]; exact small1000 (by omega), hi, fun a z hz => ?_, ns ++ [n], ?_, by rw [List.length_append, g2]; rfl, fun u hu => ?_⟩
        · rw [upd_ne (ne_of_none hz hpl)]
          exact s2 _ _ hz
        · rw [upd_same, List.map_append]
          rfl
        · rcases List.mem_append.mp hu with v | v
          · exact g3 u v
          · rw [List.mem_singleton.mp v]
            exact hn
      refine ⟨rfl, ?_⟩
      refine ⟨_, rfl, .int y, rfl, rfl, _, rfl, ite2 (fun _ => ?_) (fun _ => ?_)⟩
      · exact ⟨.int x, rfl, go x hx⟩
      · refine ⟨_, rfl, ?_⟩
        have e := go i hi
        rw [← Int.zero_add (i : Int)] at e
        exact e
    · rintro H2 ⟨_, s2, ns, g1, g2, g3⟩
      refine ⟨(by show 2 ≤ sizeLine; decide), fun t1 ht1 => ?_⟩
      have s3 := (s1.trans s2).trans (same_new (o := .tup [.ref d, .ref pl]) ht1)
      have hd3 : (upd H2 t1 (.tup [.ref d, .ref pl])) d = some (.dK []) := same_new ht1 _ _ (s2 _ _ upd_same)
      have hpl3 : (upd H2 t1 (.tup [.ref d, .ref pl])) pl = some (.lst (ns.map fun (n : Nat) => V.int (n : Int))) := same_new ht1 _ _ g1
      have npd : pl ≠ d := fun z => by
        rw [z, upd_same] at hpl
        cases hpl
      refine ⟨t1, _, rfl, SqT.of upd_same, rfl, _, _, rfl, _, _, rfl, rfl, ?_⟩
      refine ⟨.ref o, rfl, o, _, rfl, dget (s3 _ _ hO) v4, tk, rfl, ⟨_, SqT.of (s3 _ _ hT4)⟩, ?_⟩
      refine for_tup (K := K) (a := tk) (xs := ks.map V.str) (fun i σ H' => ∃ (v5 v6 v7 v8 : Option V) (tkv : List (Key × V)) (Ms' : List (List (List Int))), σ = [some (.ref o), some (.int x), some (.int y), some (.ref d), some (.ref pl), v5, v6, v7, v8] ∧ Same H H' ∧ H' pl = some (.lst (ns.map fun (n : Nat) => V.int (n : Int))) ∧
          H' d = some (.dK tkv) ∧ tkv.length ≤ i ∧ (tkv.map (·.1)).Nodup ∧ Ms'.length = i ∧ ∀ (j : Nat) (k : Str), j < i → ks[j]? = some k → ∃ (t : Addr) (M : List (List Int)), valV tkv (.inr k) = some (.ref t) ∧ Ms'[j]? = some M ∧ Tab b H' t m M)
        ⟨none, none, none, none, [], [], rfl, s3, hpl3, hd3, Nat.le_refl _, List.nodup_nil, rfl, fun j k h => absurd h (Nat.not_lt_zero _)⟩ (fun i σ H' _ ⟨_, _, _, _, _, _, _, s, _⟩ => SqT.of (s _ _ hT4)) ?_ ?_
      · rintro i u σ H' hu ⟨v5', v6, v7, v8, tkv, Ms', rfl, s, h1, h2, h3, hnd, h4, h5⟩
        obtain ⟨k, hk, rfl⟩ : ∃ k, ks[i]? = some k ∧ u = .str k := by
          rw [List.getElem?_map] at hu
          cases e : ks[i]? with
          | none =>
            rw [e] at hu
            cases hu
          | some k =>
            rw [e] at hu
            exact ⟨k, rfl, (Option.some.inj hu).symm⟩
        obtain ⟨t, M, e1, e2, e3⟩ := tabs i k hk
        have hk3 := ok.k3
        have hik : i < ks.length := (List.getElem?_eq_some_iff.mp hk).1
        refine ⟨.ref pl, rfl, pl, rfl, ⟨_, SqL.of h1⟩, fun D hD => ?_⟩
        refine lc_list (K := K) (a := pl) (xs := ns.map fun (n : Nat) => V.int (n : Int)) (fun a H2 => a ≤ m ∧ Same H' H2 ∧ ∃ (qs : List Addr) (N : List (List Int)), H2 D = some (.lst (qs.map V.ref)) ∧ qs.length = a ∧ N.length = a ∧
            (∀ (j : Nat) (q : Addr), qs[j]? = some q → q ≠ D ∧ ∃ row : List Int, N[j]? = some row ∧ H2 q = some (.tup (row.map V.int))) ∧ ∀ row ∈ N, row.length = m ∧ ∀ z ∈ row, TOk b z)
          ⟨Nat.zero_le _, same_new hD, [], [], upd_same, rfl, rfl, fun j q h => by simp at h, fun _ h => by cases h⟩ (fun a H2 _ ⟨_, s, _⟩ => SqL.of (s _ _ h1)) ?_ ?_
        · rintro a w H3 hw ⟨_, sa, qs, N, f1, f2, f3, f4, f5⟩
          have ham : a < m := by
            have := (List.getElem?_eq_some_iff.mp hw).1
            rw [List.length_map] at this
            omega
          obtain ⟨na, hna, rfl⟩ := nat_at hw
          refine ⟨rfl, ?_⟩
          refine ⟨.ref pl, rfl, pl, rfl, ⟨_, SqL.of (sa _ _ h1)⟩, fun D2 hD2 => ?_⟩
          refine lc_list (K := K) (a := pl) (xs := ns.map fun (n : Nat) => V.int (n : Int)) (fun c H4 => c ≤ m ∧ Same H3 H4 ∧ ∃ zs : List Int, H4 D2 = some (.lst (zs.map V.int)) ∧ zs.length = c ∧ ∀ z ∈ zs, TOk b z)
            ⟨Nat.zero_le _, same_new hD2, [], upd_same, rfl, fun _ h => by cases h⟩ (fun c H4 _ ⟨_, s4, _⟩ => SqL.of (s4 _ _ (sa _ _ h1))) ?_ ?_
          · rintro c w H4 hw ⟨_, s4, zs, r1, r2, r3⟩
            have hcm : c < m := by
              have := (List.getElem?_eq_some_iff.mp hw).1
              rw [List.length_map] at this
              omega
            obtain ⟨nc, hnc, rfl⟩ := nat_at hw
            have sH := ((s.trans sa).trans s4)
            obtain ⟨rs, r, row, z, y1, y2, y3, y4, y5⟩ := (e3.same sH).at (g3 na hna) (g3 nc hnc)
            refine ⟨rfl, ?_⟩
            refine ⟨.ref o, rfl, o, _, rfl, dget (sH _ _ hO) v5, .str k, rfl, td, _, rfl, dget (sH _ _ hTd) e1, ?_⟩
            refine ⟨.int na, rfl, t, _, (na : Int), _, rfl, rfl, SqT.of y1, atI_nat y2, ?_⟩
            refine ⟨.int nc, rfl, r, _, (nc : Int), _, rfl, rfl, SqT.of y3, atI_nat y4, ?_⟩
            refine ⟨_, r1, by rw [List.length_map]; exact small1000 (by omega), hcm, fun a o ho => ?_, zs ++ [z], ?_, by rw [List.length_append, r2]; rfl, fun u hu => ?_⟩
            · rw [upd_ne (ne_of_none ho hD2)]
              exact s4 _ _ ho
            · rw [upd_same, List.map_append]
              rfl
            · rcases List.mem_append.mp hu with v | v
              · exact r3 u v
              · rw [List.mem_singleton.mp v]
                exact y5
          · rintro H4 ⟨_, s4, zs, r1, r2, r3⟩
            rw [List.length_map, g2] at r2
            refine ⟨D2, _, rfl, .inl ⟨SqL.of r1, fun t2 ht2 => ?_⟩⟩
            have s5 := s4.trans (same_new (o := .tup (zs.map V.int)) ht2)
            have nDt : D ≠ t2 := ne_of_none (s4 _ _ f1) ht2
            refine ⟨_, s5 _ _ f1, by rw [List.length_map]; exact small1000 (by omega), ham, fun a o ho => ?_, qs ++ [t2], N ++ [zs], ?_, by rw [List.length_append, f2]; rfl, by rw [List.length_append, f3]; rfl, fun j q hq => ?_, fun r hr => ?_⟩
            · rw [upd_ne (ne_of_none ho hD)]
              exact s5 _ _ (sa _ _ ho)
            · rw [upd_same, List.map_append]
              rfl
            · by_cases hj : j < qs.length
              · rw [List.getElem?_append_left hj] at hq
                obtain ⟨k1, row', k2, k3⟩ := f4 j q hq
                exact ⟨k1, row', by rw [List.getElem?_append_left (by omega)]; exact k2, by rw [upd_ne k1]; exact s5 _ _ k3⟩
              · rw [List.getElem?_append_right (by omega)] at hq
                have hj0 : j - qs.length = 0 := by
                  have := (List.getElem?_eq_some_iff.mp hq).1
                  simp only [List.length_singleton] at this
                  omega
                rw [hj0] at hq
                have eq : t2 = q := Option.some.inj hq
                subst eq
                refine ⟨nDt.symm, zs, ?_, by rw [upd_ne nDt.symm, upd_same]⟩
                rw [List.getElem?_append_right (by omega), show j - N.length = 0 by omega]
                rfl
            · rcases List.mem_append.mp hr with v | v
              · exact f5 r v
              · rw [List.mem_singleton.mp v]
                exact ⟨r2, r3⟩
        · rintro H3 ⟨_, sa, qs, N, f1, f2, f3, f4, f5⟩
          rw [List.length_map, g2] at f2 f3
          refine ⟨D, _, rfl, .inl ⟨SqL.of f1, fun t2 ht2 => ?_⟩⟩
          have s6 := sa.trans (same_new (o := .tup (qs.map V.ref)) ht2)
          have hdn : (upd H3 t2 (.tup (qs.map V.ref))) d = some (.dK tkv) := s6 _ _ h2
          refine ⟨.ref d, rfl, .str k, rfl, d, _, rfl, DPut.k (k := .inr k) hdn (small1000 (by omega)), ?_⟩
          have ndH : ∀ a z, H a = some z → a ≠ d := fun a z hz => ne_of_none hz hd
          have n2d : t2 ≠ d := fun z => by
            rw [z, sa _ _ h2] at ht2
            cases ht2
          have tabN : Tab b (upd (upd H3 t2 (.tup (qs.map V.ref))) d (.dK (putK tkv (.inr k) (.ref t2)))) t2 m N := by
            refine ⟨qs, by rw [upd_ne n2d, upd_same], f2, f3, fun j r hr => ?_, f5⟩
            obtain ⟨k1, row, k2, k3⟩ := f4 j r hr
            have nrd : r ≠ d := fun z => by
              rw [z, sa _ _ h2] at k3
              cases k3
            exact ⟨row, k2, by rw [upd_ne nrd, upd_ne (ne_of_none k3 ht2)]; exact k3⟩
          refine ⟨_, _, _, _, putK tkv (.inr k) (.ref t2), Ms' ++ [N], rfl, fun a z hz => ?_, ?_, upd_same, ?_, putK_nd hnd, by rw [List.length_append, h4]; rfl, fun j k' hj hk' => ?_⟩
          · rw [upd_ne (ndH a z hz)]
            exact s6 _ _ (s _ _ hz)
          · rw [upd_ne npd]
            exact s6 _ _ h1
          · unfold putK
            split
            · rw [List.length_map]
              omega
            · rw [List.length_append]
              show tkv.length + 1 ≤ i + 1
              omega
          · by_cases hji : j < i
            · obtain ⟨t', M', k1, k2, k3⟩ := h5 j k' hji hk'
              have nkk : ¬ (Sum.inr k' : Key) = Sum.inr k := fun z => by
                have z := Sum.inr.inj z
                rw [z] at hk'
                have := (List.getElem?_inj (show j < ks.length by omega) ok.nk.nd).mp (hk'.trans hk.symm)
                omega
              refine ⟨t', M', ?_, by rw [List.getElem?_append_left (by omega)]; exact k2, ?_⟩
              · rw [valV_put, if_neg nkk]
                exact k1
              · have k4 := k3.same s6
                obtain ⟨rs, l1, l2, l3, l4, l5⟩ := k4
                have nt : t' ≠ d := fun z => by
                  rw [z, hdn] at l1
                  cases l1
                refine ⟨rs, by rw [upd_ne nt]; exact l1, l2, l3, fun j r hr => ?_, l5⟩
                obtain ⟨row, p1, p2⟩ := l4 j r hr
                have nr : r ≠ d := fun z => by
                  rw [z, hdn] at p2
                  cases p2
                exact ⟨row, p1, by rw [upd_ne nr]; exact p2⟩
            · have eji : j = i := by omega
              subst eji
              rw [hk] at hk'
              have ek := Option.some.inj hk'
              subst ek
              refine ⟨t2, N, ?_, ?_, tabN⟩
              · rw [valV_put, if_pos rfl]
              · rw [List.getElem?_append_right (by omega), show j - Ms'.length = 0 by omega]
                rfl
      · rintro σ H' ⟨v5', v6, v7, v8, tkv, Ms', rfl, s, h1, h2, h3, hnd, h4, h5⟩
        rw [List.length_map] at h3 h4 h5
        refine fun q' hq' => ?_
        have sq := same_new (o := .dK []) hq'
        have sH := s.trans sq
        refine ⟨.ref o, rfl, o, _, rfl, dget (sH _ _ hO) v1, ?_⟩
        refine ⟨.ref o, rfl, o, _, rfl, dget (sH _ _ hO) v2, ?_⟩
        refine ⟨.ref o, rfl, o, _, rfl, dget (sH _ _ hO) v3, ?_⟩
        refine ⟨.ref o, rfl, o, _, rfl, dget (sH _ _ hO) v4, ?_⟩
        refine ⟨.ref d, rfl, ?_⟩
        refine ⟨upd_same, dict5 b tm tw tk d, rfl, (by show 5 ≤ 15; decide), ?_⟩
        rw [merge0 (dict5_nd b tm tw tk d)]
        have sF : Same H (upd (upd H' q' (.dK [])) q' (.dK (dict5 b tm tw tk d))) := fun a z hz => by
          have n : a ≠ q' := ne_of_none (s _ _ hz) hq'
          rw [upd_ne n, upd_ne n]
          exact s _ _ hz
        have sF' : Same H' (upd (upd H' q' (.dK [])) q' (.dK (dict5 b tm tw tk d))) := fun a z hz => by
          have n : a ≠ q' := ne_of_none hz hq'
          rw [upd_ne n, upd_ne n]
          exact hz
        obtain ⟨w1, w2, w3, w4, w5⟩ := dict5_at b tm tw tk d
        refine q q' Ms' _ sF (s.free hq') ⟨_, tm, tw, tk, d, upd_same, (by show 5 ≤ 10; decide), w1, w2, sF _ _ hT2, w3, sF _ _ hT3, w4, sF _ _ hT4, w5, tkv, sF' _ _ h2, hnd, Nat.le_trans h3 (Nat.le_trans hk3 (by decide)), fun i k hk => ?_⟩ ⟨ok.b0, ok.b1, ok.b97, ok.m1, ok.m4, ok.nm, ok.wl, ok.w, ok.nk, ok.k1, ok.k3, h4⟩
        obtain ⟨t, M, a1, a2, a3⟩ := h5 i k (List.getElem?_eq_some_iff.mp hk).1 hk
        exact ⟨t, M, a1, a2, a3.same sF'⟩
end
end OG
set_option Elab.async false
set_option linter.all false
set_option maxRecDepth 100000
set_option maxHeartbeats 8000000
namespace OG
open PySem PySem.Spec PyProof.Rows L2
theorem paired_of {α β : Type} {R : α → β → Prop} : ∀ {xs : List α} {ys : List β}, xs.length = ys.length → (∀ (j : Nat) x y, xs[j]? = some x → ys[j]? = some y → R x y) → Paired R xs ys
  | [], [], _, _ => .nil
  | [], _ :: _, h, _ => by simp at h
  | _ :: _, [], h, _ => by simp at h
  | x :: xs, y :: ys, h, f => .cons (f 0 x y rfl rfl) (paired_of (by simpa using h) fun j a b h1 h2 => f (j + 1) a b (by simpa using h1) (by simpa using h2))
theorem valV_of : ∀ {kvs : List (Key × V)}, (kvs.map (·.1)).Nodup → ∀ {j : Nat} {k : Key} {v : V}, kvs[j]? = some (k, v) → valV kvs k = some v
  | [], _, j, k, v, h => by simp at h
  | p :: r, n, 0, k, v, h => by
    have e : p = (k, v) := Option.some.inj h
    rw [e]
    exact valV_pos rfl
  | p :: r, n, j + 1, k, v, h => by
    rw [List.map_cons, List.nodup_cons] at n
    have h : r[j]? = some (k, v) := h
    have ne : ¬ p.1 = k := fun z => n.1 (by
      rw [z]
      exact List.mem_map_of_mem (f := fun q : Key × V => q.1) (List.mem_of_getElem? h))
    rw [valV_neg ne]
    exact valV_of n.2 h
def dict3 (b : Int) (tm tw : Addr) : List (Key × V) := [(.inr "by", .int b), (.inr "marks", .ref tm), (.inr "weights", .ref tw)]
def dict4 (b : Int) (tm tw tk : Addr) : List (Key × V) := [(.inr "by", .int b), (.inr "marks", .ref tm), (.inr "weights", .ref tw), (.inr "kinds", .ref tk)]
theorem dict3_nd (b : Int) (tm tw : Addr) : ((dict3 b tm tw).map (·.1)).Nodup := by
  show ([.inr "by", .inr "marks", .inr "weights"] : List Key).Nodup
  decide +kernel
theorem put3 (b : Int) (tm tw tk : Addr) : putK (dict3 b tm tw) (.inr "kinds") (.ref tk) = dict4 b tm tw tk := by
  refine (putK_new _ ?_).trans rfl
  unfold dict3
  rw [valV_neg (k_ne (by decide +kernel)), valV_neg (k_ne (by decide +kernel)), valV_neg (k_ne (by decide +kernel))]
  rfl
theorem put4 (b : Int) (tm tw tk td : Addr) : putK (dict4 b tm tw tk) (.inr "tables") (.ref td) = dict5 b tm tw tk td := by
  refine (putK_new _ ?_).trans rfl
  unfold dict4
  rw [valV_neg (k_ne (by decide +kernel)), valV_neg (k_ne (by decide +kernel)), valV_neg (k_ne (by decide +kernel)), valV_neg (k_ne (by decide +kernel))]
  rfl
theorem Tab.upd {b : Int} {H : Hp} {t D : Addr} {m : Nat} {M : List (List Int)} {o : HO} (h : Tab b H t m M) (hn : ∀ xs, H D ≠ some (.tup xs)) : Tab b (upd H D o) t m M := by
  obtain ⟨rs, h1, h2, h3, h4, h5⟩ := h
  have n : ∀ {a : Addr} {xs : List V}, H a = some (.tup xs) → a ≠ D := fun {a xs} e z => hn xs (by rw [← z]; exact e)
  refine ⟨rs, by rw [upd_ne (n h1)]; exact h1, h2, h3, fun i r hr => ?_, h5⟩
  obtain ⟨row, e1, e2⟩ := h4 i r hr
  exact ⟨row, e1, by rw [upd_ne (n e2)]; exact e2⟩
section
variable {P : Program} {w : World} {K : PySem.W.Frag} {mg : Str → Option Value} {base : Heap}
def spBof : Sp := fun vs H Q _ => ∃ (p kk : Addr) (b : Int) (m k : Nat) (ab : Bool) (ks : List Str), vs = [.ref p, .int b, .int (m : Int), .ref kk, .bl ab] ∧ Pot (k + 500) H p ∧ 0 ≤ b ∧ b ≠ 1 ∧ b ≤ 97 ∧ 1 ≤ m ∧ m ≤ 4 ∧ H kk = some (.tup (ks.map V.str)) ∧ Nms ks ks.length ∧ 1 ≤ ks.length ∧ ks.length ≤ 3 ∧
  ∀ (q : Addr) (ms : List Str) (ws : List Int) (Ms : List (List (List Int))) (H' : Hp), Dr p k H H' → H q = none → q ≠ p → BookAt H' q b m ms ws ks Ms → BkOk b m ms ws ks Ms → Q (.ref q) H'
theorem ok_l_book_of (T : Txt K mg) : FnOk P w K mg base CX0 4 T.f_l_book_of T.fd_l_book_of ["pot", "by", "many", "kinds", "is_above"] (spBof) := by
  refine T.F_l_book_of.ok sc_l_book_of (fun vs H Q E h => ?_) (fun cdv A outer s H vs Q E hr h => ?_)
  · obtain ⟨p, kk, b, m, k, ab, ks, rfl, _⟩ := h
    rfl
  · obtain ⟨p, kk, b, m, k, ab, ks, rfl, hP, b0, b1, b97, m1, m4, hkk, hks, k1, k3, q⟩ := h
    refine ⟨_, (pss_cons (ps_set (i := 5) sc_l_book_of.nd rfl (Or.inl rfl) (pe_disp (pps_cons pe_str (pv 1) (pps_cons pe_str (pe_call (ok_l_book_names T) (hr.mono (by decide)) (by rfl) T.g_l_book_names T.F_l_book_names.kp T.b_l_book_names .nil pass0 (pa_cons (pv 0) (pa_cons (pv 2) pa_nil))) (pps_cons pe_str (pe_call (ok_l_book_weights T) (hr.mono (by decide)) (by rfl) T.g_l_book_weights T.F_l_book_weights.kp T.b_l_book_weights .nil pass0 (pa_cons (pv 0) (pa_cons (pv 1) (pa_cons (pv 2) (pa_cons (pv 4) pa_nil))))) pps_nil))) (by rfl) (by rfl) (fun z => by cases z) (by decide)))
  (pss_cons (ps_dput (hu_of hr) (pv 5) pe_str (pe_callTy call_tuple_of (by rfl) T.n_tuple (by decide +kernel) (pa_cons (pv 3) pa_nil)) rfl)
  (pss_cons (ps_dput (hu_of hr) (pv 5) pe_str (pe_callTy (call_dictP rfl) (by rfl) T.n_dict (by decide +kernel) (pa_cons (pe_lc (own := [("kind", 8)]) (g := gName 8) (by rfl) sc_l_book_of.nd (pi_tup (pv 3)) (blkOk_by (own := [("kind", 8)]) (by rfl)) (fun _ _ _ _ _ => (pg_name (i := 8) sc_l_book_of.nd rfl (Or.inl rfl))) (fun _ _ _ _ _ => pts_nil) (fun _ _ _ _ _ => (pe_tup (pa_cons (pv 8) (pa_cons (pe_call (ok_l_book_table T) (hr.mono (by decide)) (by rfl) T.g_l_book_table T.F_l_book_table.kp T.b_l_book_table .nil pass0 (pa_cons (pv 0) (pa_cons (pv 1) (pa_cons (pv 2) pa_nil)))) pa_nil))))) pa_nil)) rfl)
  (pss_cons (ps_if (PW.pt (pw_and (pt_cmpR op_gt (pv 2) pe_int (nomark _)) (pw_and1 (pt_cmpR op_eq (pe_call (ok_l_take T) (hr.mono (by decide)) (by rfl) T.g_l_take T.F_l_take.kp T.b_l_take .nil pass0 (pa_cons (pv 0) (pa_cons pe_int pa_nil))) pe_int (nomark _))))) (pss_cons (ps_asg (pe_call (ok_l_some T) (hr.mono (by decide)) (by rfl) T.g_l_some T.F_l_some.kp T.b_l_some .nil pass0 (pa_cons (pv 0) (pa_cons (pe_listRg (by rfl) (by rfl) T.n_list (prg_1 (by rfl) T.n_range (pv 2))) (pa_cons pe_int pa_nil)))) (pg_lst (by rfl) (pgs_cons (pg_name (i := 6) sc_l_book_of.nd rfl (Or.inl rfl)) (pgs_cons (pg_name (i := 7) sc_l_book_of.nd rfl (Or.inl rfl)) pgs_nil))))
  (pss_one (ps_set (i := 5) sc_l_book_of.nd rfl (Or.inl rfl) (pe_call (ok_l_book_twinned T) (hr.mono (by decide)) (by rfl) T.g_l_book_twinned T.F_l_book_twinned.kp T.b_l_book_twinned .nil pass0 (pa_cons (pv 5) (pa_cons (pv 6) (pa_cons (pv 7) pa_nil))))))) pss_nil)
  (pss_one (ps_ret (pv 5))))))), ?_⟩
    refine fun q0 hq0 => ?_
    have nq0p : q0 ≠ p := hP.ne hq0
    have d0 : Dr p (k + 500) H (upd H q0 (.dK [])) := (Dr.start hP (Nat.le_refl _)).new hq0
    refine ⟨.int b, rfl, .ref p, rfl, .int m, rfl, p, m, k + 400, rfl, d0.2.mono (by omega), by omega, fun tm ms H1 hms d1 n1 ntm h1 => ?_⟩
    refine ⟨.ref p, rfl, .int b, rfl, .int m, rfl, .bl ab, rfl, p, b, m, k + 380, ab, rfl, d1.2.mono (by omega), by omega, m1, b0, b1, b97, fun tw ws H2 hwl hws d2 n2 ntw h2 => ?_⟩
    have d02 := (d0.trans d1).trans d2
    have hq2 : H2 q0 = some (.dK []) := d2.st nq0p (d1.st nq0p upd_same)
    refine ⟨hq2, dict3 b tm tw, rfl, (by show 3 ≤ 15; decide), ?_⟩
    rw [merge0 (dict3_nd b tm tw)]
    have d3 := d02.mut (o := .dK (dict3 b tm tw)) hq0 nq0p
    have hkk3 : (upd H2 q0 (.dK (dict3 b tm tw))) kk = some (.tup (ks.map V.str)) := d3.st (hP.neT hkk) hkk
    refine ⟨.ref kk, rfl, kk, _, rfl, .inr ⟨SqT.of hkk3, ?_⟩⟩
    refine ⟨.ref q0, rfl, q0, _, rfl, DPut.k (k := .inr "kinds") upd_same (by show 3 < sizeLine; decide), ?_⟩
    rw [put3]
    generalize hH4 : upd (upd H2 q0 (.dK (dict3 b tm tw))) q0 (.dK (dict4 b tm tw kk)) = H4
    have d4 : Dr p (k + 380) H H4 := by
      rw [← hH4]
      exact d3.mut hq0 nq0p
    have hq4 : H4 q0 = some (.dK (dict4 b tm tw kk)) := by
      rw [← hH4]
      exact upd_same
    have htm4 : H4 tm = some (.tup (ms.map V.str)) := by
      have e := d2.st ntm h1
      rw [← hH4, upd_ne (ne_of e hq2 (by intro z; cases z)), upd_ne (ne_of e hq2 (by intro z; cases z))]
      exact e
    have htw4 : H4 tw = some (.tup (ws.map V.int)) := by
      rw [← hH4, upd_ne (ne_of h2 hq2 (by intro z; cases z)), upd_ne (ne_of h2 hq2 (by intro z; cases z))]
      exact h2
    have hkk4 : H4 kk = some (.tup (ks.map V.str)) := d4.st (hP.neT hkk) hkk
    refine ⟨.ref kk, rfl, kk, rfl, ⟨_, SqT.of hkk4⟩, fun D hD => ?_⟩
    have nDp : D ≠ p := d4.2.ne hD
    refine lc_tup (K := K) (a := kk) (xs := ks.map V.str) (fun i H5 => i ≤ ks.length ∧ Dr p (k + 380 - 60 * i) H4 H5 ∧ ∃ (ps ts : List Addr) (Ms : List (List (List Int))), H5 D = some (.lst (ps.map V.ref)) ∧ ps.length = i ∧ ts.length = i ∧ Ms.length = i ∧
        ∀ (j : Nat) (a t : Addr) (kd : Str), ps[j]? = some a → ts[j]? = some t → ks[j]? = some kd → a ≠ p ∧ H5 a = some (.tup [.str kd, .ref t]) ∧ ∃ M, Ms[j]? = some M ∧ Tab b H5 t m M)
      ⟨Nat.zero_le _, (Dr.start d4.2 (Nat.le_refl _)).new hD, [], [], [], upd_same, rfl, rfl, rfl, fun j a t kd h => by simp at h⟩ (fun i H5 _ ⟨_, d5, _⟩ => SqT.of (d5.st (hP.neT hkk) hkk4)) ?_ ?_
    · rintro i x H5 hx ⟨_, d5, ps, ts, Ms, g1, g2, g3, g4, g5⟩
      obtain ⟨kd, hkd, rfl⟩ : ∃ kd, ks[i]? = some kd ∧ x = .str kd := by
        rw [List.getElem?_map] at hx
        cases e : ks[i]? with
        | none =>
          rw [e] at hx
          cases hx
        | some kd =>
          rw [e] at hx
          exact ⟨kd, rfl, (Option.some.inj hx).symm⟩
      have hik : i < ks.length := (List.getElem?_eq_some_iff.mp hkd).1
      refine ⟨rfl, ?_⟩
      refine ⟨_, rfl, .ref p, rfl, .int b, rfl, .int m, rfl, p, b, m, k + 380 - 60 * (i + 1), rfl, d5.2.mono (by omega), m4, m1, b0, b1, b97, fun t M H6 hM d6 nt ntp => ?_⟩
      refine ⟨(by show 2 ≤ sizeLine; decide), fun tt htt => ?_⟩
      have d7 := d6.new (o := .tup [.str kd, .ref t]) htt
      have hD6 : H6 D = some (.lst (ps.map V.ref)) := d6.st nDp g1
      have hD7 : (upd H6 tt (.tup [.str kd, .ref t])) D = some (.lst (ps.map V.ref)) := d7.st nDp g1
      have nttD : tt ≠ D := fun z => by
        rw [z, hD6] at htt
        cases htt
      refine ⟨_, hD7, by rw [List.length_map]; exact small1000 (by omega), hik, (d5.trans d7).mut hD nDp, ps ++ [tt], ts ++ [t], Ms ++ [M], ?_, by rw [List.length_append, g2]; rfl, by rw [List.length_append, g3]; rfl, by rw [List.length_append, g4]; rfl, fun j a t' kd' ha ht' hk' => ?_⟩
      · rw [upd_same, List.map_append]
        rfl
      · by_cases hj : j < i
        · rw [List.getElem?_append_left (by omega)] at ha ht'
          obtain ⟨u1, u2, M', u3, u4⟩ := g5 j a t' kd' ha ht' hk'
          have nat : ∀ xs, (upd H6 tt (.tup [.str kd, .ref t])) D ≠ some (.tup xs) := fun xs z => by
            rw [hD7] at z
            cases z
          refine ⟨u1, ?_, M', by rw [List.getElem?_append_left (by omega)]; exact u3, (u4.dr d5.2 d7).upd nat⟩
          have e := d7.st u1 u2
          rw [upd_ne (ne_of e hD7 (by intro z; cases z))]
          exact e
        · have hjl : j < (ps ++ [tt]).length := (List.getElem?_eq_some_iff.mp ha).1
          rw [List.length_append, List.length_singleton] at hjl
          have hji : j = i := by omega
          subst hji
          rw [List.getElem?_append_right (by omega), show j - ps.length = 0 by omega] at ha
          rw [List.getElem?_append_right (by omega), show j - ts.length = 0 by omega] at ht'
          have ea : tt = a := Option.some.inj ha
          have et : t = t' := Option.some.inj ht'
          rw [hkd] at hk'
          have ek : kd = kd' := Option.some.inj hk'
          subst ea et ek
          refine ⟨d6.2.ne htt, by rw [upd_ne nttD, upd_same], M, ?_, ?_⟩
          · rw [List.getElem?_append_right (by omega), show j - Ms.length = 0 by omega]
            rfl
          · refine (hM.same (same_new htt)).upd fun xs z => ?_
            rw [hD7] at z
            cases z
    · rintro H5 ⟨_, d5, ps, ts, Ms, g1, g2, g3, g4, g5⟩
      rw [List.length_map] at g2 g3 g4 d5
      have hkv : ∀ (j : Nat) (t : Addr) (kd : Str), ts[j]? = some t → ks[j]? = some kd → ((ks.zip ts).map fun q => ((.inr q.1 : Key), V.ref q.2))[j]? = some (.inr kd, .ref t) := fun j t kd h1 h2 => by
        rw [List.getElem?_map, List.getElem?_zip_eq_some (z := (kd, t)) |>.mpr ⟨h2, h1⟩]
        rfl
      have hkeys : ((ks.zip ts).map fun q => ((.inr q.1 : Key), V.ref q.2)).map (·.1) = ks.map (fun z => (.inr z : Key)) := by
        rw [List.map_map]
        have e : ((fun x : Key × V => x.1) ∘ fun q : Str × Addr => ((.inr q.1 : Key), V.ref q.2)) = (fun z : Str => (.inr z : Key)) ∘ (fun q : Str × Addr => q.1) := rfl
        rw [e, ← List.map_map, List.map_fst_zip (by omega)]
      have hnd : (((ks.zip ts).map fun q => ((.inr q.1 : Key), V.ref q.2)).map (·.1)).Nodup := by
        rw [hkeys]
        have n := hks.nd
        unfold List.Nodup at n ⊢
        rw [List.pairwise_map]
        exact n.imp fun h e => h (Sum.inr.inj e)
      have hln : ((ks.zip ts).map fun q => ((.inr q.1 : Key), V.ref q.2)).length ≤ 10 := by
        rw [List.length_map, List.length_zip]
        omega
      refine ⟨D, ps, (ks.zip ts).map fun q => ((.inr q.1 : Key), V.ref q.2), rfl, SqL.of g1, paired_of ?_ fun j a kv ha hkv' => ?_, fun dd hdd => ?_⟩
      · rw [List.length_map, List.length_zip]
        omega
      · rw [List.getElem?_map] at hkv'
        cases e : (ks.zip ts)[j]? with
        | none =>
          rw [e] at hkv'
          cases hkv'
        | some kt =>
          rw [e] at hkv'
          have ekv := Option.some.inj hkv'
          obtain ⟨z1, z2⟩ := List.getElem?_zip_eq_some.mp e
          obtain ⟨u1, u2, _⟩ := g5 j a kt.2 kt.1 ha z2 z1
          rw [← ekv]
          exact SqT.of u2
      · rw [merge0 hnd]
        generalize hkvs : ((ks.zip ts).map fun q => ((.inr q.1 : Key), V.ref q.2)) = tkv at *
        have sdd := same_new (o := .dK tkv) hdd
        have d6 := d5.new (o := .dK tkv) hdd
        have hq6 : (upd H5 dd (.dK tkv)) q0 = some (.dK (dict4 b tm tw kk)) := d6.st nq0p hq4
        refine ⟨.ref q0, rfl, q0, _, rfl, DPut.k (k := .inr "tables") hq6 (by show 4 < sizeLine; decide), ?_⟩
        rw [put4]
        generalize hH7 : upd (upd H5 dd (.dK tkv)) q0 (.dK (dict5 b tm tw kk dd)) = H7
        have d7 : Dr p (k + 200) H H7 := by
          rw [← hH7]
          exact ((d4.trans d6).mut hq0 nq0p).mono (by omega)
        have nup : ∀ xs, (upd H5 dd (.dK tkv)) q0 ≠ some (.tup xs) := fun xs z => by
          rw [hq6] at z
          cases z
        have keep : ∀ (a : Addr) (xs : List V), (upd H5 dd (.dK tkv)) a = some (.tup xs) → H7 a = some (.tup xs) := fun a xs e => by
          rw [← hH7, upd_ne (ne_of e hq6 (by intro z; cases z))]
          exact e
        have nddq : dd ≠ q0 := fun z => by
          rw [z, d5.st nq0p hq4] at hdd
          cases hdd
        obtain ⟨w1, w2, w3, w4, w5⟩ := dict5_at b tm tw kk dd
        have ok : BkOk b m ms ws ks Ms := ⟨b0, b1, b97, m1, m4, hms, hwl, hws, hks, k1, k3, g4⟩
        have bk : BookAt H7 q0 b m ms ws ks Ms := by
          refine ⟨dict5 b tm tw kk dd, tm, tw, kk, dd, by rw [← hH7]; exact upd_same, (by show 5 ≤ 10; decide), w1, w2, keep _ _ (d6.st ntm htm4), w3, keep _ _ (d6.st ntw htw4), w4, keep _ _ (d6.st (hP.neT hkk) hkk4), w5, tkv, ?_, hnd, hln, fun i kd hk => ?_⟩
          · rw [← hH7, upd_ne nddq, upd_same]
          · have hi : i < ks.length := (List.getElem?_eq_some_iff.mp hk).1
            have ht : ts[i]? = some (ts[i]'(by omega)) := List.getElem?_eq_getElem (by omega)
            have hp : ps[i]? = some (ps[i]'(by omega)) := List.getElem?_eq_getElem (by omega)
            obtain ⟨u1, u2, M, u3, u4⟩ := g5 i _ _ kd hp ht hk
            refine ⟨_, M, valV_of hnd (hkv i _ kd ht hk), u3, ?_⟩
            rw [← hH7]
            exact (u4.same sdd).upd nup
        have fin : ∀ (q' : Addr) (Ms' : List (List (List Int))) (H8 : Hp), Dr p k H H8 → H q' = none → q' ≠ p → BookAt H8 q' b m ms ws ks Ms' → BkOk b m ms ws ks Ms' → Q (.ref q') H8 := fun q' Ms' H8 => q q' ms ws Ms' H8
        have done : ∀ H8, Dr p k H7 H8 → Q (.ref q0) H8 := fun H8 d8 => fin q0 Ms H8 (d7.trans d8) hq0 nq0p (bk.dr d7.2 d8) ok
        refine ⟨.int m, rfl, _, _, rfl, rfl, _, rfl, ite2 (fun hm => ?_) (fun _ => ?_)⟩
        · have hm : 1 < (m : Int) := of_decide_eq_true hm
          refine ⟨.ref p, rfl, p, 4, k + 100, rfl, d7.2.mono (by omega), by decide, by decide, fun r H8 r0 r1 d8 => ?_⟩
          refine ⟨rfl, _, rfl, ite2 (fun _ => ?_) (fun _ => ?_)⟩
          · refine ⟨.ref p, rfl, .int m, rfl, m, rfl, RgOk.of_le (by decide) (by omega) (by decide) (by omega), fun lr hlr => ?_⟩
            have d9 := d8.new (o := .lst (plV m)) hlr
            refine ⟨p, lr, plV m, 2, k + 50, rfl, d9.2.mono (by omega), SqL.of upd_same, d8.2.ne hlr, by rw [plV_len]; omega, by rw [plV_len]; omega, fun q2 ys zs H10 yl pm d10 nq2 nq2p hq2 => ?_⟩
            obtain ⟨y1, y2, rfl⟩ : ∃ y1 y2, ys = [y1, y2] := by
              match ys, yl with
              | [y1, y2], _ => exact ⟨y1, y2, rfl⟩
            have iny : ∀ y, y ∈ [y1, y2] → ∃ n : Nat, n < m ∧ y = .int (n : Int) := fun y hy => by
              obtain ⟨i, hi⟩ := List.getElem?_of_mem (pm.mem_iff.mp (List.mem_append_left _ hy))
              obtain ⟨z1, z2⟩ := plV_at hi
              exact ⟨i, z1, z2⟩
            obtain ⟨n1', hn1, rfl⟩ := iny y1 (by simp)
            obtain ⟨n2', hn2, rfl⟩ := iny y2 (by simp)
            refine ⟨q2, _, rfl, SqL.of hq2, rfl, _, _, rfl, _, _, rfl, rfl, ?_⟩
            have d710 := d9.trans d10
            have bk10 : BookAt H10 q0 b m ms ws ks Ms := bk.dr d7.2 d710
            refine ⟨.ref q0, rfl, .int n1', rfl, .int n2', rfl, q0, n1', n2', b, m, ms, ks, ws, Ms, rfl, bk10, ok, hn1, fun q3 Ms' H11 s11 nq3 bk11 ok11 => ?_⟩
            have d11 : Dr p k H H11 := Dr.mono ⟨(d7.trans d710).1.trans (Same.kp s11), d710.2.same s11⟩ (by omega)
            exact ⟨_, rfl, fin q3 Ms' H11 d11 ((d7.trans d710).fr nq3) (d710.2.ne nq3) bk11 ok11⟩
          · exact ⟨_, rfl, done H8 (d8.mono (by omega))⟩
        · exact ⟨_, rfl, done H7 (Dr.start d7.2 (by omega))⟩
end
end OG
set_option Elab.async false
set_option linter.all false
set_option maxRecDepth 100000
set_option maxHeartbeats 8000000
namespace OG
open PySem PySem.Spec PyProof.Rows L2
open RZ (ItzT pi_zipA iZipA)
theorem lc_zipT {K : PySem.W.Frag} {a b : Addr} {xs ys : List V} {g : TG} {tt : TT} {te : TE} {vs : List Nat} {σ : L2.St} {H1 : Hp} {D : Addr} {Qd : Hp → Prop} (Pv : Nat → Hp → Prop) (h0 : Pv 0 (upd H1 D (.lst []))) (hq : ∀ i H, Pv i H → SqT K H a xs ∧ SqT K H b ys)
    (hs : ∀ (i : Nat) (x y : V) (T : Addr) (H : Hp), xs[i]? = some x → ys[i]? = some y → Pv i H → H T = none → g (.ref T) (wipe σ vs) (upd H T (.tup [x, y])) fun σ2 H2 => wipe σ2 vs = wipe σ vs ∧ tt σ2 H2 fun b H3 =>
      if b = true then te σ2 H3 fun y H4 => ∃ acc, H4 D = some (.lst acc) ∧ acc.length < sizeLine ∧ Pv (i + 1) (upd H4 D (.lst (acc ++ [y]))) else Pv (i + 1) H3) (hd : ∀ H, Pv (min xs.length ys.length) H → Qd H) :
    ∃ W : Nat → Nat → Hp → Prop, (∃ m, W 0 m (upd H1 D (.lst []))) ∧ ∀ i m H, W i m H →
      ((ItzT K a b).stop i H ∧ Qd H) ∨ ((ItzT K a b).go i H ∧ ∃ Nx : Hp → Prop, (∀ H', Nx H' → ∃ m', m' < m ∧ W (i + 1) m' H') ∧ ∀ x H', (ItzT K a b).yld i H x H' → g x (wipe σ vs) H' fun σ2 H2 => wipe σ2 vs = wipe σ vs ∧ tt σ2 H2 fun b H3 =>
        if b = true then te σ2 H3 fun y H4 => ∃ acc, H4 D = some (.lst acc) ∧ acc.length < sizeLine ∧ Nx (upd H4 D (.lst (acc ++ [y]))) else Nx H3) := by
  refine ⟨fun i m H => m = min xs.length ys.length - i ∧ i ≤ min xs.length ys.length ∧ Pv i H, ⟨_, rfl, Nat.zero_le _, h0⟩, ?_⟩
  rintro i m H ⟨rfl, hi, p⟩
  obtain ⟨qx, qy⟩ := hq i H p
  by_cases hlt : i < min xs.length ys.length
  · have h1 : i < xs.length := by omega
    have h2 : i < ys.length := by omega
    refine .inr ⟨⟨xs, ys, xs[i], ys[i], qx, qy, List.getElem?_eq_getElem h1, List.getElem?_eq_getElem h2⟩, Pv (i + 1), fun H' p' => ⟨min xs.length ys.length - (i + 1), by omega, rfl, hlt, p'⟩, fun v H' hy => ?_⟩
    obtain ⟨T, x, y, rfl, nT, rfl, f1, f2⟩ := hy
    exact hs i x y T H (f1 xs qx) (f2 ys qy) p nT
  · have e : i = min xs.length ys.length := by omega
    subst e
    refine .inl ⟨⟨xs, ys, qx, qy, by omega⟩, hd H p⟩
theorem Dr.sm {p : Addr} {k : Nat} {H H1 H2 : Hp} (d : Dr p k H H1) (s : Same H1 H2) : Dr p k H H2 := ⟨d.1.trans (Same.kp s), d.2.same s⟩
theorem put_len {kvs : List (Key × V)} {k : Key} {v x : V} (h : valV kvs k = some x) : (putK kvs k v).length = kvs.length := by
  have e : (kvs.any fun kv => decide (kv.1 = k)) = true := by
    rw [valV_any, h]
    rfl
  unfold putK
  rw [if_pos e, List.length_map]
theorem Nms.take {ms : List Str} {m n : Nat} (h : Nms ms m) (hn : n ≤ m) : Nms (ms.take n) n := by
  refine ⟨by rw [List.length_take, h.len]; omega, h.nd.sublist (List.take_sublist _ _), fun z hz => h.is z (List.mem_of_mem_take hz)⟩
section
variable {P : Program} {w : World} {K : PySem.W.Frag} {mg : Str → Option Value} {base : Heap}
def spDrawn (K : PySem.W.Frag) : Sp := fun vs H Q _ => ∃ (p lb lm : Addr) (bs ms0 : List Int) (kn : Int) (k : Nat) (ab : Bool), vs = [.ref p, .ref lb, .ref lm, .int kn, .bl ab] ∧ Pot (k + 800) H p ∧ SqL K H lb (bs.map V.int) ∧ lb ≠ p ∧ 0 < bs.length ∧ bs.length < 1000 ∧ (∀ b ∈ bs, 0 ≤ b ∧ b ≠ 1 ∧ b ≤ 97) ∧
  SqL K H lm (ms0.map V.int) ∧ lm ≠ p ∧ 0 < ms0.length ∧ ms0.length < 1000 ∧ (∀ b ∈ ms0, 1 ≤ b ∧ b ≤ 4) ∧ 1 ≤ kn ∧ kn ≤ 3 ∧
  ∀ (q : Addr) (b : Int) (m : Nat) (ms ks : List Str) (ws : List Int) (Ms : List (List (List Int))) (H' : Hp), b ∈ bs → (m : Int) ∈ ms0 → Dr p k H H' → H q = none → q ≠ p → BookAt H' q b m ms ws ks Ms → BkOk b m ms ws ks Ms → Q (.ref q) H'
theorem str_at {xs : List Str} {i : Nat} {x : V} (h : (xs.map V.str)[i]? = some x) : ∃ z, xs[i]? = some z ∧ x = .str z := by
  rw [List.getElem?_map] at h
  cases e : xs[i]? with
  | none =>
    rw [e] at h
    cases h
  | some z =>
    rw [e] at h
    exact ⟨z, rfl, (Option.some.inj h).symm⟩
theorem ok_l_book_drawn (T : Txt K mg) : FnOk P w K mg base CX0 5 T.f_l_book_drawn T.fd_l_book_drawn ["pot", "bys", "manys", "kinds", "is_above"] (spDrawn K) := by
  refine T.F_l_book_drawn.ok sc_l_book_drawn (fun vs H Q E h => ?_) (fun cdv A outer s H vs Q E hr h => ?_)
  · obtain ⟨p, lb, lm, bs, ms0, kn, k, ab, rfl, _⟩ := h
    rfl
  · obtain ⟨p, lb, lm, bs, ms0, kn, k, ab, rfl, hP, hB, nbp, bl0, bl1, bok, hM, nmp, ml0, ml1, mok, kn1, kn3, q⟩ := h
    refine ⟨_, (pss_cons (ps_par (i := 5) (j := 6) (by rfl) sc_l_book_drawn.nd rfl rfl (by decide) rfl rfl (pa_cons (pe_call (ok_l_of T) (hr.mono (by decide)) (by rfl) T.g_l_of T.F_l_of.kp T.b_l_of .nil pass0 (pa_cons (pv 0) (pa_cons (pv 1) pa_nil))) (pa_cons (pe_call (ok_l_of T) (hr.mono (by decide)) (by rfl) T.g_l_of T.F_l_of.kp T.b_l_of .nil pass0 (pa_cons (pv 0) (pa_cons (pv 2) pa_nil))) pa_nil)) (by rfl))
  (pss_cons (ps_set (i := 7) sc_l_book_drawn.nd rfl (Or.inl rfl) (pe_call (ok_l_book_names T) (hr.mono (by decide)) (by rfl) T.g_l_book_names T.F_l_book_names.kp T.b_l_book_names .nil pass0 (pa_cons (pv 0) (pa_cons (pe_op op_add pe_int (pe_call (ok_l_take T) (hr.mono (by decide)) (by rfl) T.g_l_take T.F_l_take.kp T.b_l_take .nil pass0 (pa_cons (pv 0) (pa_cons (pv 3) pa_nil)))) pa_nil))))
  (pss_cons (ps_set (i := 8) sc_l_book_drawn.nd rfl (Or.inr rfl) (pe_call (ok_l_book_of T) (hr.mono (by decide)) (by rfl) T.g_l_book_of T.F_l_book_of.kp T.b_l_book_of .nil pass0 (pa_cons (pv 0) (pa_cons (pv 5) (pa_cons (pv 6) (pa_cons (pv 7) (pa_cons (pv 4) pa_nil)))))))
  (pss_cons (ps_if (PW.pt (pw_and (pt_cmpR op_le (pe_callB call_len_seq (by rfl) T.n_len PySem.boot_len (pa_cons (pv 7) pa_nil)) (pv 6) (nomark _)) (pw_and1 (pt_cmpR op_eq (pe_call (ok_l_take T) (hr.mono (by decide)) (by rfl) T.g_l_take T.F_l_take.kp T.b_l_take .nil pass0 (pa_cons (pv 0) (pa_cons pe_int pa_nil))) pe_int (nomark _))))) (pss_cons (ps_set (i := 9) sc_l_book_drawn.nd rfl (Or.inl rfl) (pe_callTy (call_dictP rfl) (by rfl) T.n_dict (by decide +kernel) (pa_cons (pe_lc (own := [("mark", 10), ("kind", 11)]) (by rfl) sc_l_book_drawn.nd (RZ.pi_zipA (by rfl) T.n_zip (pa_cons (pe_dget (hu_of hr) (pv 8) pe_str (fun _ _ => rfl)) (pa_cons (pv 7) pa_nil))) (blkOk_by (own := [("mark", 10), ("kind", 11)]) (by rfl)) (fun _ _ _ _ _ => (pg_tupK K (n := 2) (by rfl) (pgs_cons (pg_name (i := 10) sc_l_book_drawn.nd rfl (Or.inl rfl)) (pgs_cons (pg_name (i := 11) sc_l_book_drawn.nd rfl (Or.inl rfl)) pgs_nil)))) (fun _ _ _ _ _ => pts_nil) (fun _ _ _ _ _ => (pe_tup (pa_cons (pv 10) (pa_cons (pe_dget (hu_of hr) (pe_dget (hu_of hr) (pv 8) pe_str (fun _ _ => rfl)) (pv 11) (fun _ _ => rfl)) pa_nil))))) pa_nil)))
  (pss_one (ps_asg (pe_tup (pa_cons (pe_slice sl_tupA (pe_dget (hu_of hr) (pv 8) pe_str (fun _ _ => rfl)) po_none (po_some (pe_callB call_len_seq (by rfl) T.n_len PySem.boot_len (pa_cons (pv 7) pa_nil)))) (pa_cons (pv 9) pa_nil))) (pg_tup (by rfl) (pgs_cons (pg_sub (pv 8) pe_str (set_dict (hu_of hr))) (pgs_cons (pg_sub (pv 8) pe_str (set_dict (hu_of hr))) pgs_nil)))))) pss_nil)
  (pss_one (ps_ret (pv 8))))))), ?_⟩
    refine ⟨.ref p, rfl, .ref lb, rfl, p, lb, _, k + 799, rfl, hP, hB, nbp, by rw [List.length_map]; exact bl0, by rw [List.length_map]; omega, fun i x H1 hx d1 => ?_⟩
    obtain ⟨b, hb, rfl⟩ := at_of hx
    refine ⟨.ref p, rfl, .ref lm, rfl, p, lm, _, k + 798, rfl, d1.2, d1.1.seq nmp hM, nmp, by rw [List.length_map]; exact ml0, by rw [List.length_map]; omega, fun i2 x2 H2 hx2 d2 => ?_⟩
    obtain ⟨mi, hmi, rfl⟩ := at_of hx2
    obtain ⟨b0, b1, b97⟩ := bok b hb
    obtain ⟨mi1, mi4⟩ := mok mi hmi
    obtain ⟨m, rfl⟩ : ∃ m : Nat, mi = (m : Int) := ⟨mi.toNat, by omega⟩
    have d02 := d1.trans d2
    refine ⟨_, _, rfl, ?_⟩
    refine ⟨.ref p, rfl, .ref p, rfl, .int kn, rfl, p, kn, k + 797, rfl, d2.2, by omega, by omega, fun r H3 r0 r1 d3 => ?_⟩
    obtain ⟨n, hn⟩ : ∃ n : Nat, 1 + r = (n : Int) := ⟨(1 + r).toNat, by omega⟩
    refine ⟨1, r, rfl, rfl, p, n, k + 697, congrArg (fun z => [V.ref p, V.int z]) hn, d3.2, by omega, fun tk ks H4 hks d4 ntk ntkp htk => ?_⟩
    have hkl := hks.len
    refine ⟨.ref p, rfl, .int b, rfl, .int m, rfl, .ref tk, rfl, .bl ab, rfl, p, tk, b, m, k + 197, ab, ks, rfl, d4.2, b0, b1, b97, by omega, by omega, htk, by rw [hkl]; exact hks, by omega, by omega, fun q0 ms ws Ms H5 d5 nq0 nq0p bk ok => ?_⟩
    have d05 := ((d02.trans d3).trans d4).trans d5
    have htk5 : H5 tk = some (.tup (ks.map V.str)) := d5.st ntkp htk
    have nq : H q0 = none := ((d02.trans d3).trans d4).fr nq0
    have done : ∀ H8, Dr p k H5 H8 → Q (.ref q0) H8 := fun H8 d8 => q q0 b m ms ks ws Ms H8 hb hmi (d05.trans d8) nq nq0p (bk.dr d5.2 d8) ok
    refine ⟨.ref tk, rfl, tk, _, rfl, .inr (SqT.of htk5), .int m, rfl, _, _, rfl, rfl, _, rfl, ite2 (fun hle => ?_) (fun _ => ?_)⟩
    · have hle : ((ks.map V.str).length : Int) ≤ (m : Int) := of_decide_eq_true hle
      rw [List.length_map, hkl] at hle
      refine ⟨.ref p, rfl, p, 6, k + 196, rfl, d5.2, by decide, by decide, fun r6 H6 _ _ d6 => ?_⟩
      refine ⟨rfl, _, rfl, ite2 (fun _ => ?_) (fun _ => ?_)⟩
      · have d06 := d05.trans d6
        have bk6 := bk.dr d5.2 d6
        have htk6 : H6 tk = some (.tup (ks.map V.str)) := d6.st ntkp htk5
        obtain ⟨kvs, tm, tw, tk', td, hO, hl10, v1, v2, hT2, v3, hT3, v4, hT4, v5, tkvs, hTd, tnd, tln, tabs⟩ := id bk6
        have hml := ok.nm.len
        refine ⟨.ref q0, rfl, q0, _, rfl, dget hO v2, .ref tk, rfl, tm, tk, _, _, rfl, .inr ⟨SqT.of hT2, SqT.of htk6, fun D hD => ?_⟩⟩
        refine lc_zipT (K := K) (a := tm) (b := tk) (xs := ms.map V.str) (ys := ks.map V.str) (fun i H7 => i ≤ n ∧ Same H6 H7 ∧ ∃ (ps ts : List Addr), H7 D = some (.lst (ps.map V.ref)) ∧ ps.length = i ∧ ts.length = i ∧
            ∀ (j : Nat) (a t : Addr) (z : Str), ps[j]? = some a → ts[j]? = some t → ms[j]? = some z → H7 a = some (.tup [.str z, .ref t]) ∧ ∃ M, Ms[j]? = some M ∧ Tab b H6 t m M)
          ⟨Nat.zero_le _, same_new hD, [], [], upd_same, rfl, rfl, fun j a t kd h => by simp at h⟩ (fun i H7 ⟨_, s7, _⟩ => ⟨SqT.of (s7 _ _ hT2), SqT.of (s7 _ _ htk6)⟩) ?_ ?_
        · rintro i x y T7 H7 hx hy ⟨_, s7, ps, ts, g1, g2, g3, g4⟩ hT7
          obtain ⟨z, hz, rfl⟩ := str_at hx
          obtain ⟨kd, hkd, rfl⟩ := str_at hy
          have hik : i < ks.length := (List.getElem?_eq_some_iff.mp hkd).1
          obtain ⟨t, M, e1, e2, e3⟩ := tabs i kd hkd
          have s8 := s7.trans (same_new (o := .tup [.str z, .str kd]) hT7)
          refine ⟨T7, _, rfl, SqT.of upd_same, rfl, _, _, rfl, _, _, rfl, rfl, ?_⟩
          refine ⟨rfl, ?_⟩
          refine ⟨_, rfl, .ref q0, rfl, q0, _, rfl, dget (s8 _ _ hO) v5, .str kd, rfl, td, _, rfl, dget (s8 _ _ hTd) e1, ?_⟩
          refine ⟨(by show 2 ≤ sizeLine; decide), fun tt htt => ?_⟩
          have s9 := s8.trans (same_new (o := .tup [.str z, .ref t]) htt)
          have hD9 : (upd (upd H7 T7 (.tup [.str z, .str kd])) tt (.tup [.str z, .ref t])) D = some (.lst (ps.map V.ref)) := same_new htt _ _ (same_new hT7 _ _ g1)
          have nttD : tt ≠ D := fun e => by
            rw [e, same_new hT7 _ _ g1] at htt
            cases htt
          refine ⟨_, hD9, by rw [List.length_map]; exact small1000 (by omega), by omega, fun a o ho => ?_, ps ++ [tt], ts ++ [t], ?_, by rw [List.length_append, g2]; rfl, by rw [List.length_append, g3]; rfl, fun j a t' z' ha ht' hz' => ?_⟩
          · rw [upd_ne (ne_of_none ho hD)]
            exact s9 _ _ ho
          · rw [upd_same, List.map_append]
            rfl
          · by_cases hj : j < i
            · rw [List.getElem?_append_left (by omega)] at ha ht'
              obtain ⟨u1, u2⟩ := g4 j a t' z' ha ht' hz'
              have e := same_new (o := .tup [.str z, .ref t]) htt _ _ (same_new (o := .tup [.str z, .str kd]) hT7 _ _ u1)
              refine ⟨?_, u2⟩
              rw [upd_ne (ne_of e hD9 (by intro z; cases z))]
              exact e
            · have hjl : j < (ps ++ [tt]).length := (List.getElem?_eq_some_iff.mp ha).1
              rw [List.length_append, List.length_singleton] at hjl
              have hji : j = i := by omega
              subst hji
              rw [List.getElem?_append_right (by omega), show j - ps.length = 0 by omega] at ha
              rw [List.getElem?_append_right (by omega), show j - ts.length = 0 by omega] at ht'
              have ea : tt = a := Option.some.inj ha
              have et : t = t' := Option.some.inj ht'
              rw [hz] at hz'
              have ek : z = z' := Option.some.inj hz'
              subst ea et ek
              exact ⟨by rw [upd_ne nttD, upd_same], M, e2, e3⟩
        · rintro H7 ⟨hin, s7, ps, ts, g1, g2, g3, g4⟩
          rw [List.length_map, List.length_map, hml, hkl, Nat.min_eq_right (by omega)] at g2 g3
          have hkv : ∀ (j : Nat) (t : Addr) (z : Str), ts[j]? = some t → (ms.take n)[j]? = some z → (((ms.take n).zip ts).map fun q => ((.inr q.1 : Key), V.ref q.2))[j]? = some (.inr z, .ref t) := fun j t z h1 h2 => by
            rw [List.getElem?_map, List.getElem?_zip_eq_some (z := (z, t)) |>.mpr ⟨h2, h1⟩]
            rfl
          have htl : (ms.take n).length = n := by
            rw [List.length_take, hml]
            omega
          have nmt := ok.nm.take (n := n) (by omega)
          have hnd : ((((ms.take n).zip ts).map fun q => ((.inr q.1 : Key), V.ref q.2)).map (·.1)).Nodup := by
            rw [List.map_map]
            have e : ((fun x : Key × V => x.1) ∘ fun q : Str × Addr => ((.inr q.1 : Key), V.ref q.2)) = (fun z : Str => (.inr z : Key)) ∘ (fun q : Str × Addr => q.1) := rfl
            rw [e, ← List.map_map, List.map_fst_zip (by omega)]
            have n := nmt.nd
            unfold List.Nodup at n ⊢
            rw [List.pairwise_map]
            exact n.imp fun h e => h (Sum.inr.inj e)
          have at_take : ∀ (j : Nat) (z : Str), (ms.take n)[j]? = some z → ms[j]? = some z := fun j z h => by
            rw [List.getElem?_take] at h
            split at h
            · exact h
            · cases h
          have hln : (((ms.take n).zip ts).map fun q => ((.inr q.1 : Key), V.ref q.2)).length ≤ 10 := by
            rw [List.length_map, List.length_zip]
            omega
          refine ⟨D, ps, ((ms.take n).zip ts).map fun q => ((.inr q.1 : Key), V.ref q.2), rfl, SqL.of g1, paired_of ?_ fun j a kv ha hkv' => ?_, fun dd hdd => ?_⟩
          · rw [List.length_map, List.length_zip]
            omega
          · rw [List.getElem?_map] at hkv'
            cases e : ((ms.take n).zip ts)[j]? with
            | none =>
              rw [e] at hkv'
              cases hkv'
            | some kt =>
              rw [e] at hkv'
              have ekv := Option.some.inj hkv'
              obtain ⟨z1, z2⟩ := List.getElem?_zip_eq_some.mp e
              obtain ⟨u1, _⟩ := g4 j a kt.2 kt.1 ha z2 (at_take _ _ z1)
              rw [← ekv]
              exact SqT.of u1
          · rw [merge0 hnd]
            generalize hkvs : (((ms.take n).zip ts).map fun q => ((.inr q.1 : Key), V.ref q.2)) = tkv at *
            have s8 := s7.trans (same_new (o := .dK tkv) hdd)
            have sdd := same_new (o := .dK tkv) hdd
            have hdd8 : (upd H7 dd (.dK tkv)) dd = some (.dK tkv) := upd_same
            have stored : ∀ (H8 : Hp) (tn : Addr), Same (upd H7 dd (.dK tkv)) H8 → H8 tn = some (.tup ((ms.take n).map V.str)) →
                ∃ (H9 H10 : Hp), DPut H8 q0 (.str "kinds") (.ref tn) H9 ∧ DPut H9 q0 (.str "tables") (.ref dd) H10 ∧ ∀ H11, Same H10 H11 → Q (.ref q0) H11 := fun H8 tn sx htn => by
              have s68 := s8.trans sx
              have hO8 := s68 _ _ hO
              have len9 : ∀ (kv : List (Key × V)) (k : Key) (v : V), (putK kv k v).length ≤ kv.length + 1 := fun kv k v => by
                unfold putK
                split
                · rw [List.length_map]
                  omega
                · rw [List.length_append]
                  exact Nat.le_refl _
              refine ⟨_, _, DPut.k (k := .inr "kinds") hO8 (small1000 (by omega)), DPut.k (k := .inr "tables") upd_same (small1000 (Nat.le_trans (len9 _ _ _) (by omega))), fun H11 s11 => ?_⟩
              generalize hkv2 : putK (putK kvs (.inr "kinds") (.ref tn)) (.inr "tables") (.ref dd) = kvs2 at s11
              have look : ∀ (s : Str), ¬ s = "kinds" → ¬ s = "tables" → valV kvs2 (.inr s) = valV kvs (.inr s) := fun s h1 h2 => by
                rw [← hkv2, valV_put, if_neg (k_ne h2), valV_put, if_neg (k_ne h1)]
              have lk : valV kvs2 (.inr "kinds") = some (.ref tn) := by
                rw [← hkv2, valV_put, if_neg (k_ne (by decide +kernel)), valV_put, if_pos rfl]
              have lt : valV kvs2 (.inr "tables") = some (.ref dd) := by
                rw [← hkv2, valV_put, if_pos rfl]
              have nT : ∀ {a : Addr} {xs : List V}, H8 a = some (.tup xs) → H11 a = some (.tup xs) := fun {a xs} e => s11 _ _ (by
                rw [upd_ne (ne_of e hO8 (by intro z; cases z)), upd_ne (ne_of e hO8 (by intro z; cases z))]
                exact e)
              have nddq : dd ≠ q0 := fun z => by
                rw [z, s7 _ _ hO] at hdd
                cases hdd
              have nup : ∀ xs, H8 q0 ≠ some (.tup xs) := fun xs z => by
                rw [hO8] at z
                cases z
              have l9 : kvs2.length ≤ 12 := by
                rw [← hkv2]
                exact Nat.le_trans (len9 _ _ _) (Nat.le_trans (Nat.add_le_add_right (len9 _ _ _) 1) (by omega))
              have d8 := d06.sm s68
              have dx : Dr p (k + 196) H H11 := ((d8.mut nq nq0p).mut nq nq0p).sm s11
              have nup9 : ∀ xs, (upd H8 q0 (.dK (putK kvs (.inr "kinds") (.ref tn)))) q0 ≠ some (.tup xs) := fun xs z => by
                rw [upd_same] at z
                cases z
              refine q q0 b m ms (ms.take n) ws Ms H11 hb hmi (dx.mono (by omega)) nq nq0p ⟨kvs2, tm, tw, tn, dd, s11 _ _ upd_same, ?_, by rw [look _ (by decide +kernel) (by decide +kernel)]; exact v1, by rw [look _ (by decide +kernel) (by decide +kernel)]; exact v2, nT (s68 _ _ hT2), by rw [look _ (by decide +kernel) (by decide +kernel)]; exact v3, nT (s68 _ _ hT3), lk, nT htn, lt, tkv, s11 _ _ (by rw [upd_ne nddq, upd_ne nddq]; exact sx _ _ hdd8), hnd, hln, fun i z hz => ?_⟩ ⟨ok.b0, ok.b1, ok.b97, ok.m1, ok.m4, ok.nm, ok.wl, ok.w, by rw [htl]; exact nmt, by omega, by omega, by rw [ok.ml, hkl, htl]⟩
              · rw [← hkv2, put_len (x := .ref td) (by rw [valV_put, if_neg (k_ne (by decide +kernel))]; exact v5), put_len v4]
                exact hl10
              · have hi : i < n := by
                  have := (List.getElem?_eq_some_iff.mp hz).1
                  omega
                have ht : ts[i]? = some (ts[i]'(by omega)) := List.getElem?_eq_getElem (by omega)
                have hp : ps[i]? = some (ps[i]'(by omega)) := List.getElem?_eq_getElem (by omega)
                obtain ⟨u1, M, u3, u4⟩ := g4 i _ _ z hp ht (at_take _ _ hz)
                exact ⟨_, M, valV_of hnd (hkv i _ z ht hz), u3, (((u4.same s68).upd nup).upd nup9).same s11⟩
            have s8O := s8 _ _ hO
            refine ⟨.ref q0, rfl, q0, _, rfl, dget s8O v2, .ref tk, rfl, tk, _, rfl, .inr (SqT.of (s8 _ _ htk6)), (n : Int), by rw [List.length_map, hkl], ?_⟩
            refine ⟨tm, _, rfl, SqT.of (s8 _ _ hT2), fun wh => ?_, fun _ tn htn => ?_⟩
            · refine ⟨_, rfl, (by show 2 ≤ sizeLine; decide), fun tt htt => ?_⟩
              have et : ms.take n = ms := by
                have e := wh.2
                rw [HT.sIx_nat, List.length_map] at e
                exact List.take_of_length_le (by omega)
              obtain ⟨H9, H10, e1, e2, e3⟩ := stored _ tm (same_new (o := .tup [.ref tm, .ref dd]) htt) (by rw [et]; exact same_new htt _ _ (s8 _ _ hT2))
              exact ⟨tt, _, rfl, SqT.of upd_same, rfl, _, _, rfl, .ref q0, rfl, q0, H9, rfl, e1, _, _, rfl, .ref q0, rfl, q0, H10, rfl, e2, rfl, _, rfl, e3 H10 (Same.refl _)⟩
            · refine ⟨_, rfl, (by show 2 ≤ sizeLine; decide), fun tt htt => ?_⟩
              have sn := same_new (o := .tup (cutV (ms.map V.str) none (some (n : Int)))) htn
              have ec : cutV (ms.map V.str) none (some (n : Int)) = (ms.take n).map V.str := by
                rw [cut_to, List.map_take]
              obtain ⟨H9, H10, e1, e2, e3⟩ := stored _ tn (sn.trans (same_new (o := .tup [.ref tn, .ref dd]) htt)) (by rw [upd_ne (ne_new htt).symm, upd_same, ec])
              exact ⟨tt, _, rfl, SqT.of upd_same, rfl, _, _, rfl, .ref q0, rfl, q0, H9, rfl, e1, _, _, rfl, .ref q0, rfl, q0, H10, rfl, e2, rfl, _, rfl, e3 H10 (Same.refl _)⟩
      · exact ⟨_, rfl, done H6 (d6.mono (by omega))⟩
    · exact ⟨_, rfl, done H5 (Dr.start d5.2 (by omega))⟩
end
end OG
set_option Elab.async false
set_option linter.all false
set_option maxRecDepth 100000
set_option maxHeartbeats 4000000
namespace OG
open PySem PySem.Spec PyProof.Rows L2
def istr (i : Int) : Str := Str.ofString (toString i)
theorem istr_len {i : Int} (h1 : -1000000000000 ≤ i) (h2 : i ≤ 1000000000000) : (istr i).length ≤ 14 := by
  by_cases h : i < 0
  · unfold istr
    rw [len_text_neg h]
    have := toString_length_le (v := 0 - i) (by omega) (k := 13) (by decide) (by omega)
    omega
  · have := toString_length_le (v := i) (by omega) (k := 13) (by decide) (by omega)
    unfold istr
    omega
theorem small_log {i : Int} (h1 : -1000000000000 ≤ i) (h2 : i ≤ 1000000000000) : i.natAbs.log2 < 1920 := PySem.Flt.log2_lt_of (by decide) (Nat.lt_of_le_of_lt (show i.natAbs ≤ 1000000000000 by omega) (Nat.lt_of_lt_of_le (show 1000000000000 < 2 ^ 60 by decide) (Nat.pow_le_pow_right (by decide) (by decide))))
theorem app_len (a b : Str) : (a ++ b).length = a.length + b.length := by
  rw [TL.len_tl, TL.tl_append, List.length_append, TL.len_tl, TL.len_tl]
theorem joinL_len (S : List Nat) : ∀ ls : List (List Nat), (TL.joinL S ls).length ≤ (ls.map fun l => l.length + S.length).sum
  | [] => Nat.zero_le _
  | [p] => by
    show p.length ≤ _
    simp
  | p :: q :: r => by
    show (p ++ (S ++ TL.joinL S (q :: r))).length ≤ _
    have ih := joinL_len S (q :: r)
    rw [List.length_append, List.length_append, List.map_cons, List.sum_cons]
    omega
theorem join_len (a : Str) (ys : List Str) : (Txt.join a ys).length ≤ (ys.map fun y => y.length + a.length).sum := by
  have e := (congrArg TL.tl (TL.join_eq a ys)).trans (TL.tl_join a ys)
  rw [TL.len_tl, e]
  refine Nat.le_trans (joinL_len _ _) ?_
  rw [List.map_map]
  exact Nat.le_refl _
theorem sum_le {α : Type} {f : α → Nat} {c : Nat} : ∀ {ys : List α}, (∀ y ∈ ys, f y ≤ c) → (ys.map f).sum ≤ ys.length * c
  | [], _ => Nat.zero_le _
  | y :: r, h => by
    have ih := sum_le (ys := r) fun z hz => h z (List.mem_cons_of_mem _ hz)
    have hy := h y List.mem_cons_self
    rw [List.map_cons, List.sum_cons, List.length_cons, Nat.add_mul]
    omega
theorem join_le {a : Str} {ys : List Str} {c n : Nat} (h : ∀ y ∈ ys, y.length ≤ c) (hn : ys.length ≤ n) (ha : a.length = 1) : (Txt.join a ys).length ≤ n * (c + 1) := by
  refine Nat.le_trans (join_len a ys) (Nat.le_trans (sum_le (c := c + 1) fun y hy => ?_) (Nat.mul_le_mul_right _ hn))
  have := h y hy
  omega
/-- what join's rule asks -/
theorem join_ok {a : Str} {ys : List Str} {c n : Nat} (h : ∀ y ∈ ys, y.length ≤ c) (hn : ys.length ≤ n) (ha : a.length = 1) (hb : n * (c + 1) ≤ 16777216) : (ys.map (·.length)).sum + ys.length * a.length ≤ 16777216 := by
  have e := sum_le (f := fun y : Str => y.length) h
  have e2 : ys.length * (c + 1) ≤ n * (c + 1) := Nat.mul_le_mul_right _ hn
  rw [Nat.mul_add, Nat.mul_one] at e2
  rw [ha]
  omega
def markL (z : Str) (w : Int) : Str := "mark " ++ z ++ " " ++ istr w
def rowL (row : List Int) : Str := Txt.join " " (row.map istr)
def kindL (k : Str) (M : List (List Int)) : Str := "kind " ++ k ++ " " ++ Txt.join " " (M.map rowL)
def bookLines (b : Int) (ms : List Str) (ws : List Int) (ks : List Str) (Ms : List (List (List Int))) : List Str := ("book " ++ istr b) :: (List.zipWith markL ms ws ++ List.zipWith kindL ks Ms)
def bookText (b : Int) (ms : List Str) (ws : List Int) (ks : List Str) (Ms : List (List (List Int))) : Str := Txt.join "\n" (bookLines b ms ws ks Ms)
theorem markL_len {z : Str} {w : Int} (hz : z.length ≤ 4) (h1 : -1000000000000 ≤ w) (h2 : w ≤ 1000000000000) : (markL z w).length ≤ 24 := by
  have := istr_len h1 h2
  unfold markL
  rw [app_len, app_len, app_len]
  show 5 + z.length + 1 + _ ≤ _
  omega
theorem rowL_len {row : List Int} (h : ∀ z ∈ row, -1000000000000 ≤ z ∧ z ≤ 1000000000000) (hl : row.length ≤ 4) : (rowL row).length ≤ 60 := by
  refine join_le (c := 14) (n := 4) (fun y hy => ?_) (by rw [List.length_map]; exact hl) rfl
  obtain ⟨z, hz, rfl⟩ := List.mem_map.mp hy
  exact istr_len (h z hz).1 (h z hz).2
theorem rows_len {M : List (List Int)} (h : ∀ row ∈ M, row.length ≤ 4 ∧ ∀ z ∈ row, -1000000000000 ≤ z ∧ z ≤ 1000000000000) (hl : M.length ≤ 4) : (Txt.join " " (M.map rowL)).length ≤ 244 := by
  refine join_le (c := 60) (n := 4) (fun y hy => ?_) (by rw [List.length_map]; exact hl) rfl
  obtain ⟨row, hr, rfl⟩ := List.mem_map.mp hy
  exact rowL_len (h row hr).2 (h row hr).1
theorem kindL_len {k : Str} {M : List (List Int)} (hk : k.length ≤ 4) (h : ∀ row ∈ M, row.length ≤ 4 ∧ ∀ z ∈ row, -1000000000000 ≤ z ∧ z ≤ 1000000000000) (hl : M.length ≤ 4) : (kindL k M).length ≤ 254 := by
  have := rows_len h hl
  unfold kindL
  rw [app_len, app_len, app_len]
  show 5 + k.length + 1 + _ ≤ _
  omega
end OG
set_option Elab.async false
set_option linter.all false
set_option maxRecDepth 100000
set_option maxHeartbeats 8000000
namespace OG
open PySem PySem.Spec PyProof.Rows L2
open RZ (ItzT pi_zipA iZipA for_zipT)
theorem take_more {α : Type} {l : List α} {i : Nat} {x : α} (h : l[i]? = some x) : l.take (i + 1) = l.take i ++ [x] := by
  rw [List.take_add_one, h]
  rfl
theorem zw_at {α β γ : Type} {f : α → β → γ} {xs : List α} {ys : List β} {i : Nat} {x : α} {y : β} (h1 : xs[i]? = some x) (h2 : ys[i]? = some y) : (List.zipWith f xs ys)[i]? = some (f x y) := by
  rw [List.getElem?_zipWith, h1, h2]
theorem szl {n : Nat} (h : n ≤ 16000000) : n ≤ sizeLine := Nat.le_trans h (by decide)
section
variable {P : Program} {w : World} {K : PySem.W.Frag} {mg : Str → Option Value} {base : Heap}
def spText : Sp := fun vs H Q _ => ∃ (o : Addr) (b : Int) (m : Nat) (ms ks : List Str) (ws : List Int) (Ms : List (List (List Int))), vs = [.ref o] ∧ BookAt H o b m ms ws ks Ms ∧ BkOk b m ms ws ks Ms ∧
  ∀ (H' : Hp), Same H H' → Q (.str (bookText b ms ws ks Ms)) H'
theorem ok_l_book_text (T : Txt K mg) : FnOk P w K mg base CX0 1 T.f_l_book_text T.fd_l_book_text ["own"] (spText) := by
  refine T.F_l_book_text.ok sc_l_book_text (fun vs H Q E h => ?_) (fun cdv A outer s H vs Q E hr h => ?_)
  · obtain ⟨o, b, m, ms, ks, ws, Ms, rfl, _⟩ := h
    rfl
  · obtain ⟨o, b, m, ms, ks, ws, Ms, rfl, hB, ok, q⟩ := h
    refine ⟨_, (pss_cons (ps_set (i := 1) sc_l_book_text.nd rfl (Or.inl rfl) (pe_lst (pa_cons (pe_op op_add_str pe_str (pe_callTy call_str_int (by rfl) T.n_str (by decide +kernel) (pa_cons (pe_callTy call_int1 (by rfl) T.n_int (by decide +kernel) (pa_cons (pe_dget (hu_of hr) (pv 0) pe_str (fun _ _ => rfl)) pa_nil)) pa_nil))) pa_nil)))
  (pss_cons (ps_for PassesOwn.never rfl (RZ.pi_zipA (by rfl) T.n_zip (pa_cons (pe_dget (hu_of hr) (pv 0) pe_str (fun _ _ => rfl)) (pa_cons (pe_dget (hu_of hr) (pv 0) pe_str (fun _ _ => rfl)) pa_nil))) (pg_tup (by rfl) (pgs_cons (pg_name (i := 2) sc_l_book_text.nd rfl (Or.inl rfl)) (pgs_cons (pg_name (i := 3) sc_l_book_text.nd rfl (Or.inl rfl)) pgs_nil))) (pss_one (ps_expr (pe_bm PySem.F.plainAttrs_list PySem.F.slot_list_append PySem.F.type_list_append mt_append (pv 1) (pa_cons (pe_op op_add_str (pe_op op_add_str (pe_op op_add_str pe_str (pv 2)) pe_str) (pe_callTy call_str_int (by rfl) T.n_str (by decide +kernel) (pa_cons (pe_callTy call_int1 (by rfl) T.n_int (by decide +kernel) (pa_cons (pv 3) pa_nil)) pa_nil))) pa_nil)))))
  (pss_cons (ps_for PassesOwn.never rfl (pi_tup (pe_dget (hu_of hr) (pv 0) pe_str (fun _ _ => rfl))) (pg_name (i := 4) sc_l_book_text.nd rfl (Or.inl rfl)) (pss_cons (ps_setLc (i := 5) (own := [("row", 6)]) (g := gName 6) (by rfl) sc_l_book_text.nd rfl rfl (sw_true rfl rfl rfl (by decide +kernel)) (pi_tup (pe_dget (hu_of hr) (pe_dget (hu_of hr) (pv 0) pe_str (fun _ _ => rfl)) (pv 4) (fun _ _ => rfl))) (blkOk_by (own := [("row", 6)]) (by rfl)) (fun _ _ _ _ _ => (pg_name (i := 6) sc_l_book_text.nd rfl (Or.inl rfl))) (fun _ _ _ _ _ => pts_nil) (fun _ _ _ _ _ => (pe_m1 PySem.F.slot_str_join PySem.F.type_str_join (mt_joinK K) pe_str (pe_lc (own := [("n", 7)]) (g := gName 7) (by rfl) sc_l_book_text.nd (pi_tupK K (pv 6)) (blkOk_by (own := [("n", 7)]) (by rfl)) (fun _ _ _ _ _ => (pg_name (i := 7) sc_l_book_text.nd rfl (Or.inl rfl))) (fun _ _ _ _ _ => pts_nil) (fun _ _ _ _ _ => (pe_callTy call_str_int (by rfl) T.n_str (by decide +kernel) (pa_cons (pe_callTy call_int1 (by rfl) T.n_int (by decide +kernel) (pa_cons (pv 7) pa_nil)) pa_nil)))))))
  (pss_one (ps_expr (pe_bm PySem.F.plainAttrs_list PySem.F.slot_list_append PySem.F.type_list_append mt_append (pv 1) (pa_cons (pe_op op_add_str (pe_op op_add_str (pe_op op_add_str pe_str (pv 4)) pe_str) (pe_join pe_str (pv 5))) pa_nil))))))
  (pss_one (ps_ret (pe_join pe_str (pv 1))))))), ?_⟩
    have hm4 := ok.m4
    have hm1 := ok.m1
    have hml := ok.nm.len
    have hwl := ok.wl
    have hk3 := ok.k3
    have hMl := ok.ml
    have hb0 := ok.b0
    have hb97 := ok.b97
    obtain ⟨kvs, tm, tw, tk, td, hO, hl10, v1, v2, hT2, v3, hT3, v4, hT4, v5, tkvs, hTd, tnd, tln, tabs⟩ := id hB
    refine ⟨.ref o, rfl, o, _, rfl, dget hO v1, .inl ⟨b, rfl, ?_⟩⟩
    refine ⟨b, rfl, small_log (by omega) (by omega), ?_⟩
    have lb := istr_len (i := b) (by omega) (by omega)
    refine ⟨_, _, rfl, rfl, szl (Nat.le_trans (Nat.add_le_add_left lb 5) (by decide)), ?_⟩
    refine ⟨(by show 1 ≤ sizeLine; decide), fun L hL => ?_⟩
    have s1 := same_new (o := .lst [.str ("book " ++ istr b)]) hL
    refine ⟨.ref o, rfl, o, _, rfl, dget (s1 _ _ hO) v2, .ref o, rfl, o, _, rfl, dget (s1 _ _ hO) v3, tm, tw, _, _, rfl, .inr ⟨SqT.of (s1 _ _ hT2), SqT.of (s1 _ _ hT3), ?_⟩⟩
    refine for_zipT (K := K) (a := tm) (b := tw) (xs := ms.map V.str) (ys := ws.map V.int) (by rw [List.length_map, List.length_map, hml, hwl]) (fun i σ H' => ∃ v2 v3 v4 v5 v6 v7 : Option V, σ = [some (.ref o), some (.ref L), v2, v3, v4, v5, v6, v7] ∧ i ≤ m ∧ Same H H' ∧ H' L = some (.lst ((("book " ++ istr b) :: (List.zipWith markL ms ws).take i).map V.str)))
      ⟨none, none, none, none, none, none, rfl, Nat.zero_le _, s1, upd_same⟩ (fun i σ H' ⟨_, _, _, _, _, _, _, _, s, _⟩ => ⟨SqT.of (s _ _ hT2), SqT.of (s _ _ hT3)⟩) ?_ ?_
    · rintro i x y T0 σ H' hx hy ⟨u2, u3, u4, u5, u6, u7, rfl, _, s, h1⟩ hT0
      obtain ⟨z, hz, rfl⟩ := str_at hx
      obtain ⟨wt, hwt, rfl⟩ : ∃ wt, ws[i]? = some wt ∧ y = .int wt := by
        rw [List.getElem?_map] at hy
        cases e : ws[i]? with
        | none =>
          rw [e] at hy
          cases hy
        | some wt =>
          rw [e] at hy
          exact ⟨wt, rfl, (Option.some.inj hy).symm⟩
      have him : i < ms.length := (List.getElem?_eq_some_iff.mp hz).1
      obtain ⟨_, w1, w2, _⟩ := ok.w wt (List.mem_of_getElem? hwt)
      have zl := (ok.nm.is z (List.mem_of_getElem? hz)).2.1
      have wl := istr_len w1 w2
      have sT := same_new (o := .tup [.str z, .int wt]) hT0
      have hL' := sT _ _ h1
      refine ⟨T0, _, rfl, SqT.of upd_same, rfl, _, _, rfl, _, _, rfl, rfl, ?_⟩
      refine ⟨.ref L, rfl, .inl ⟨rfl, _, SqL.of hL'⟩, ?_⟩
      refine ⟨.str z, rfl, _, _, rfl, rfl, szl (Nat.le_trans (Nat.add_le_add_left zl 5) (by decide)), ?_⟩
      have l2 : ("mark " ++ z : Str).length ≤ 9 := by
        rw [app_len]
        exact Nat.add_le_add_left zl 5
      refine ⟨_, _, rfl, rfl, szl (Nat.le_trans (Nat.add_le_add_right l2 1) (by decide)), ?_⟩
      have l3 : ("mark " ++ z ++ " " : Str).length ≤ 10 := by
        rw [app_len]
        exact Nat.add_le_add_right l2 1
      refine ⟨.int wt, rfl, .inl ⟨wt, rfl, wt, rfl, small_log w1 w2, ?_⟩⟩
      refine ⟨_, _, rfl, rfl, szl (Nat.le_trans (Nat.add_le_add l3 wl) (by decide)), ?_⟩
      refine ⟨L, _, _, rfl, rfl, hL', ?_, _, _, _, _, _, _, rfl, by omega, fun a u hu => ?_, ?_⟩
      · rw [List.length_map, List.length_cons, List.length_take]
        exact small1000 (by omega)
      · have n : a ≠ L := ne_of_none hu hL
        rw [upd_ne n]
        exact sT _ _ (s _ _ hu)
      · rw [upd_same, take_more (zw_at hz hwt), ← List.cons_append, List.map_append]
        rfl
    · rintro σ H' ⟨u2, u3, u4, u5, u6, u7, rfl, _, s, h1⟩
      have ez : (List.zipWith markL ms ws).take (ms.map V.str).length = List.zipWith markL ms ws := List.take_of_length_le (by rw [List.length_zipWith, List.length_map]; omega)
      rw [ez] at h1
      refine ⟨.ref o, rfl, o, _, rfl, dget (s _ _ hO) v4, tk, rfl, ⟨_, SqT.of (s _ _ hT4)⟩, ?_⟩
      refine for_tup (K := K) (a := tk) (xs := ks.map V.str) (fun i σ H' => ∃ v2 v3 v4 v5 v6 v7 : Option V, σ = [some (.ref o), some (.ref L), v2, v3, v4, v5, v6, v7] ∧ i ≤ ks.length ∧ Same H H' ∧ H' L = some (.lst ((("book " ++ istr b) :: (List.zipWith markL ms ws ++ (List.zipWith kindL ks Ms).take i)).map V.str)))
        ⟨_, _, _, _, _, _, rfl, Nat.zero_le _, s, by rw [List.take_zero, List.append_nil]; exact h1⟩ (fun i σ H' _ ⟨_, _, _, _, _, _, _, _, s, _⟩ => SqT.of (s _ _ hT4)) ?_ ?_
      · rintro i x σ H' hx ⟨u2, u3, u4, u5, u6, u7, rfl, _, s, h1⟩
        obtain ⟨k, hk, rfl⟩ := str_at hx
        have hik : i < ks.length := (List.getElem?_eq_some_iff.mp hk).1
        obtain ⟨t, M, e1, e2, e3⟩ := tabs i k hk
        obtain ⟨rs, t1, t2, t3, t4, t5⟩ := e3
        have kl := (ok.nk.is k (List.mem_of_getElem? hk)).2.1
        have hMb : ∀ row ∈ M, row.length ≤ 4 ∧ ∀ z ∈ row, -1000000000000 ≤ z ∧ z ≤ 1000000000000 := fun row hr => ⟨by rw [(t5 row hr).1]; exact hm4, fun z hz => ⟨((t5 row hr).2 z hz).1, ((t5 row hr).2 z hz).2.1⟩⟩
        refine ⟨.ref o, rfl, o, _, rfl, dget (s _ _ hO) v5, .str k, rfl, td, _, rfl, dget (s _ _ hTd) e1, t, rfl, ⟨_, SqT.of (s _ _ t1)⟩, fun D hD => ?_⟩
        refine lc_tup (K := K) (a := t) (xs := rs.map V.ref) (fun a H2 => a ≤ m ∧ Same H' H2 ∧ H2 D = some (.lst (((M.map rowL).take a).map V.str))) ⟨Nat.zero_le _, same_new hD, upd_same⟩ (fun a H2 _ ⟨_, s2, _⟩ => SqT.of (s2 _ _ (s _ _ t1))) ?_ ?_
        · rintro a x H2 hx ⟨_, s2, g1⟩
          have ham : a < rs.length := by
            have := (List.getElem?_eq_some_iff.mp hx).1
            rwa [List.length_map] at this
          have hr : rs[a]? = some (rs[a]'ham) := List.getElem?_eq_getElem ham
          have ex : x = .ref (rs[a]'ham) := by
            rw [List.getElem?_map, hr] at hx
            exact (Option.some.inj hx).symm
          subst ex
          obtain ⟨row, r1, r2⟩ := t4 a _ hr
          obtain ⟨rl, rb⟩ := t5 row (List.mem_of_getElem? r1)
          refine ⟨rfl, ?_⟩
          refine ⟨⟨_, rfl⟩, _, rfl, _, rfl, ⟨_, SqT.of (s2 _ _ (s _ _ r2))⟩, fun D2 hD2 => ?_⟩
          refine lc_tup (K := K) (a := rs[a]'ham) (xs := row.map V.int) (fun c H3 => c ≤ m ∧ Same H2 H3 ∧ H3 D2 = some (.lst (((row.map istr).take c).map V.str))) ⟨Nat.zero_le _, same_new hD2, upd_same⟩ (fun c H3 _ ⟨_, s3, _⟩ => SqT.of (s3 _ _ (s2 _ _ (s _ _ r2)))) ?_ ?_
          · rintro c x H3 hx ⟨_, s3, f1⟩
            have hcm : c < row.length := by
              have := (List.getElem?_eq_some_iff.mp hx).1
              rwa [List.length_map] at this
            have hz : row[c]? = some (row[c]'hcm) := List.getElem?_eq_getElem hcm
            have ex : x = .int (row[c]'hcm) := by
              rw [List.getElem?_map, hz] at hx
              exact (Option.some.inj hx).symm
            subst ex
            obtain ⟨z1, z2, _⟩ := rb _ (List.mem_of_getElem? hz)
            refine ⟨rfl, ?_⟩
            refine ⟨_, rfl, .inl ⟨_, rfl, _, rfl, small_log z1 z2, ?_⟩⟩
            refine ⟨_, f1, ?_, by omega, fun a u hu => ?_, ?_⟩
            · rw [List.length_map, List.length_take, List.length_map]
              exact small1000 (by omega)
            · rw [upd_ne (ne_of_none hu hD2)]
              exact s3 _ _ hu
            · rw [upd_same, take_more (l := row.map istr) (i := c) (x := istr (row[c]'hcm)) (by rw [List.getElem?_map, hz]; rfl), List.map_append]
              rfl
          · rintro H3 ⟨_, s3, f1⟩
            rw [List.length_map, show row.length = (row.map istr).length by rw [List.length_map], List.take_length] at f1
            refine ⟨_, D2, row.map istr, rfl, rfl, .inl (SqL.of f1), join_ok (c := 14) (n := 4) (fun y hy => ?_) (by rw [List.length_map]; omega) rfl (by decide), ?_⟩
            · obtain ⟨z, hz, rfl⟩ := List.mem_map.mp hy
              exact istr_len (rb z hz).1 (rb z hz).2.1
            refine ⟨_, s3 _ _ g1, ?_, by omega, fun a u hu => ?_, ?_⟩
            · rw [List.length_map, List.length_take, List.length_map]
              exact small1000 (by omega)
            · rw [upd_ne (ne_of_none hu hD)]
              exact s3 _ _ (s2 _ _ hu)
            · rw [upd_same, take_more (l := M.map rowL) (i := a) (x := rowL row) (by rw [List.getElem?_map, r1]; rfl), List.map_append]
              rfl
        · rintro H2 ⟨_, s2, g1⟩
          rw [List.length_map, show rs.length = (M.map rowL).length by rw [List.length_map, t2, t3], List.take_length] at g1
          have hL2 := s2 _ _ h1
          refine ⟨.ref L, rfl, .inl ⟨rfl, _, SqL.of hL2⟩, ?_⟩
          refine ⟨.str k, rfl, _, _, rfl, rfl, szl (Nat.le_trans (Nat.add_le_add_left kl 5) (by decide)), ?_⟩
          have l2 : ("kind " ++ k : Str).length ≤ 9 := by
            rw [app_len]
            exact Nat.add_le_add_left kl 5
          refine ⟨_, _, rfl, rfl, szl (Nat.le_trans (Nat.add_le_add_right l2 1) (by decide)), ?_⟩
          have l3 : ("kind " ++ k ++ " " : Str).length ≤ 10 := by
            rw [app_len]
            exact Nat.add_le_add_right l2 1
          refine ⟨⟨_, rfl⟩, .ref D, rfl, _, D, M.map rowL, rfl, rfl, .inl (SqL.of g1), join_ok (c := 60) (n := 4) (fun y hy => ?_) (by rw [List.length_map]; omega) rfl (by decide), ?_⟩
          · obtain ⟨row, hr, rfl⟩ := List.mem_map.mp hy
            exact rowL_len (hMb row hr).2 (hMb row hr).1
          have jl := rows_len hMb (by omega)
          refine ⟨_, _, rfl, rfl, szl (Nat.le_trans (Nat.add_le_add l3 jl) (by decide)), ?_⟩
          refine ⟨L, _, _, rfl, rfl, hL2, ?_, _, _, _, _, _, _, rfl, by omega, fun a u hu => ?_, ?_⟩
          · rw [List.length_map, List.length_cons, List.length_append, List.length_take, List.length_zipWith]
            exact small1000 (by omega)
          · rw [upd_ne (ne_of_none hu hL)]
            exact s2 _ _ (s _ _ hu)
          · rw [upd_same, take_more (zw_at hk e2)]
            simp only [List.map_append, List.map_cons, List.cons_append, List.append_assoc]
            rfl
      · rintro σ H' ⟨u2, u3, u4, u5, u6, u7, rfl, _, s, h1⟩
        have ez : (List.zipWith kindL ks Ms).take (ks.map V.str).length = List.zipWith kindL ks Ms := List.take_of_length_le (by rw [List.length_zipWith, List.length_map]; omega)
        rw [ez] at h1
        refine ⟨⟨_, rfl⟩, .ref L, rfl, _, L, bookLines b ms ws ks Ms, rfl, rfl, .inl (SqL.of h1), join_ok (c := 254) (n := 20) (fun y hy => ?_) ?_ rfl (by decide), q H' s⟩
        · unfold bookLines at hy
          rcases List.mem_cons.mp hy with rfl | hy
          · rw [app_len]
            exact Nat.le_trans (Nat.add_le_add_left lb 5) (by decide)
          · rcases List.mem_append.mp hy with hy | hy
            · obtain ⟨i, hi⟩ := List.getElem?_of_mem hy
              rw [List.getElem?_zipWith] at hi
              cases e1 : ms[i]? with
              | none =>
                rw [e1] at hi
                cases hi
              | some z =>
                cases e2 : ws[i]? with
                | none =>
                  rw [e1, e2] at hi
                  cases hi
                | some wt =>
                  rw [e1, e2] at hi
                  have ey := Option.some.inj hi
                  obtain ⟨_, w1, w2, _⟩ := ok.w wt (List.mem_of_getElem? e2)
                  rw [← ey]
                  exact Nat.le_trans (markL_len (ok.nm.is z (List.mem_of_getElem? e1)).2.1 w1 w2) (by decide)
            · obtain ⟨i, hi⟩ := List.getElem?_of_mem hy
              rw [List.getElem?_zipWith] at hi
              cases e1 : ks[i]? with
              | none =>
                rw [e1] at hi
                cases hi
              | some k =>
                cases e2 : Ms[i]? with
                | none =>
                  rw [e1, e2] at hi
                  cases hi
                | some M =>
                  rw [e1, e2] at hi
                  have ey := Option.some.inj hi
                  obtain ⟨t, M', a1, a2, a3⟩ := tabs i k e1
                  rw [e2] at a2
                  have eM := Option.some.inj a2
                  subst eM
                  obtain ⟨rs, t1, t2, t3, t4, t5⟩ := a3
                  rw [← ey]
                  exact kindL_len (ok.nk.is k (List.mem_of_getElem? e1)).2.1 (fun row hr => ⟨by rw [(t5 row hr).1]; exact hm4, fun z hz => ⟨((t5 row hr).2 z hz).1, ((t5 row hr).2 z hz).2.1⟩⟩) (by omega)
        · unfold bookLines
          rw [List.length_cons, List.length_append, List.length_zipWith, List.length_zipWith]
          omega
end
end OG
set_option Elab.async false
set_option linter.all false
set_option maxRecDepth 100000
set_option maxHeartbeats 4000000
namespace OG
open PySem PySem.Spec PyProof.Rows L2
open PySem.NumText (AllDigits digitsVal)
abbrev tl (x : Str) : List Nat := x.cps.toList
def figs : List Nat → List Nat
  | 45 :: r => r
  | l => l
theorem figs_neg (r : List Nat) : figs (45 :: r) = r := rfl
theorem figs_pos {c : Nat} {r : List Nat} (h : c ≠ 45) : figs (c :: r) = c :: r := by
  unfold figs
  split
  · rename_i h2
    exact absurd (List.cons.inj h2).1 h
  · rfl
theorem figs_le (l : List Nat) : (figs l).length ≤ l.length := by
  unfold figs
  split
  · simp
  · exact Nat.le_refl _
theorem rp (w : Str) : tl (Txt.removeprefix w "-") = figs (tl w) := by
  have e : Builtin.Str.subAt w "-" 0 = ((tl w).take 1 == [45]) := by
    rw [PySem.StrLaws.subAt_eq, List.drop_zero]
    rfl
  unfold Txt.removeprefix
  rw [e]
  cases h : tl w with
  | nil =>
    show tl (Txt.affix w (if (([] : List Nat) == [45]) = true then _ else none)) = []
    rw [if_neg (by decide)]
    exact h
  | cons c r =>
    by_cases hc : c = 45
    · subst hc
      rw [if_pos (by show ([45] == [45]) = true; decide)]
      have hl : w.length = r.length + 1 := by
        rw [TL.len_tl]
        show (tl w).length = _
        rw [h]
        rfl
      show tl (if ((w.length - 1 == w.length) = true) then w else Builtin.Str.strSub w 1 w.length) = r
      rw [if_neg (by rw [hl]; simp)]
      show (Builtin.Str.strSub w 1 w.length).cps.toList = r
      rw [PySem.StrLaws.strSub_toList]
      show ((tl w).drop 1).take (w.length - 1) = r
      rw [h, hl]
      show r.take (r.length + 1 - 1) = r
      exact List.take_of_length_le (by omega)
    · rw [if_neg (by show ¬ ([c] == [45]) = true; simpa using hc), figs_pos hc]
      exact h
def digs (l : List Nat) : Bool := l.all fun c => decide (48 ≤ c) && decide (c ≤ 57)
theorem digs_all {l : List Nat} (h : digs l = true) : AllDigits l := fun c hc => by
  unfold digs at h
  rw [List.all_eq_true] at h
  have := h c hc
  rw [Bool.and_eq_true, decide_eq_true_eq, decide_eq_true_eq] at this
  exact this
/-- a number of at most n figures, as Python writes it -/
def numQ (n : Nat) (l : List Nat) : Bool := decide (1 ≤ (figs l).length) && decide ((figs l).length ≤ n) && digs (figs l) && !(decide ((figs l).head? = some 48) && !decide (l = [48]))
def numV : List Nat → Int
  | 45 :: r => -((digitsVal r : Nat) : Int)
  | l => ((digitsVal l : Nat) : Int)
theorem numV_neg (r : List Nat) : numV (45 :: r) = -((digitsVal r : Nat) : Int) := rfl
theorem numV_pos {c : Nat} {r : List Nat} (h : c ≠ 45) : numV (c :: r) = ((digitsVal (c :: r) : Nat) : Int) := by
  unfold numV
  split
  · rename_i h2
    exact absurd (List.cons.inj h2).1 h
  · rfl
theorem numV_abs {l : List Nat} (h : l ≠ []) : (numV l).natAbs = digitsVal (figs l) := by
  cases l with
  | nil => exact absurd rfl h
  | cons c r =>
    by_cases hc : c = 45
    · subst hc
      rw [numV_neg, figs_neg]
      omega
    · rw [numV_pos hc, figs_pos hc]
      omega
theorem digitsVal_go : ∀ (l : List Nat) (a : Nat), l.foldl (fun acc c => acc * 10 + (c - 48)) a = a * 10 ^ l.length + digitsVal l
  | [], a => by
    show a = a * 10 ^ 0 + 0
    omega
  | c :: r, a => by
    rw [List.foldl_cons, digitsVal_go r]
    have e : digitsVal (c :: r) = (c - 48) * 10 ^ r.length + digitsVal r := by
      unfold digitsVal
      rw [List.foldl_cons]
      have := digitsVal_go r (0 * 10 + (c - 48))
      rw [this, show 0 * 10 + (c - 48) = c - 48 by omega]
      rfl
    rw [e, List.length_cons, Nat.pow_succ, Nat.add_mul]
    rw [Nat.mul_assoc, Nat.mul_comm 10 (10 ^ r.length)]
    omega
theorem digitsVal_cons (c : Nat) (r : List Nat) : digitsVal (c :: r) = (c - 48) * 10 ^ r.length + digitsVal r := by
  have := digitsVal_go r (0 * 10 + (c - 48))
  show (c :: r).foldl _ 0 = _
  rw [List.foldl_cons, this, show 0 * 10 + (c - 48) = c - 48 by omega]
theorem digitsVal_lt : ∀ {l : List Nat}, AllDigits l → digitsVal l < 10 ^ l.length
  | [], _ => by decide
  | c :: r, h => by
    have ih := digitsVal_lt h.tail
    have hc := h.head
    rw [digitsVal_cons, List.length_cons, Nat.pow_succ]
    have : (c - 48) * 10 ^ r.length ≤ 9 * 10 ^ r.length := Nat.mul_le_mul_right _ (by omega)
    omega
theorem digitsVal_ge {c : Nat} {r : List Nat} (h : AllDigits (c :: r)) (hc : c ≠ 48) : 10 ^ r.length ≤ digitsVal (c :: r) := by
  have := h.head
  rw [digitsVal_cons]
  have : 1 * 10 ^ r.length ≤ (c - 48) * 10 ^ r.length := Nat.mul_le_mul_right _ (by omega)
  omega
structure NumQ (n : Nat) (l : List Nat) : Prop where
  f1 : 1 ≤ (figs l).length
  fn : (figs l).length ≤ n
  all : AllDigits (figs l)
  lead : (figs l).head? = some 48 → l = [48]
theorem numQ_iff {n : Nat} {l : List Nat} : numQ n l = true ↔ NumQ n l := by
  unfold numQ
  rw [Bool.and_eq_true, Bool.and_eq_true, Bool.and_eq_true, decide_eq_true_eq, decide_eq_true_eq]
  constructor
  · rintro ⟨⟨⟨h1, h2⟩, h3⟩, h4⟩
    refine ⟨h1, h2, digs_all h3, fun e => ?_⟩
    rw [e] at h4
    simpa using h4
  · rintro ⟨h1, h2, h3, h4⟩
    refine ⟨⟨⟨h1, h2⟩, ?_⟩, ?_⟩
    · unfold digs
      rw [List.all_eq_true]
      intro c hc
      have := h3 c hc
      simpa using this
    · by_cases e : (figs l).head? = some 48
      · rw [h4 e]
        rfl
      · simp [e]
theorem NumQ.ne {n : Nat} {l : List Nat} (h : NumQ n l) : l ≠ [] := fun e => by
  have := h.f1
  rw [e] at this
  exact absurd this (by decide)
theorem NumQ.lt {n : Nat} {l : List Nat} (h : NumQ n l) : (numV l).natAbs < 10 ^ (figs l).length := by
  rw [numV_abs h.ne]
  exact digitsVal_lt h.all
theorem NumQ.ge {n : Nat} {l : List Nat} (h : NumQ n l) (h2 : 2 ≤ (figs l).length) : 10 ^ ((figs l).length - 1) ≤ (numV l).natAbs := by
  rw [numV_abs h.ne]
  have hl := h.lead
  have ha := h.all
  cases e : figs l with
  | nil =>
    rw [e] at h2
    exact absurd h2 (by decide)
  | cons c r =>
    rw [e] at hl ha h2
    have hc : c ≠ 48 := fun z => by
      have := hl (by rw [z]; rfl)
      rw [this] at e
      have e2 : figs [48] = [48] := rfl
      rw [e2] at e
      have := (List.cons.inj e).2
      rw [← this, List.length_singleton] at h2
      omega
    rw [List.length_cons, Nat.add_sub_cancel]
    exact digitsVal_ge ha hc
theorem NumQ.zero {n : Nat} {l : List Nat} (h : NumQ n l) (h0 : numV l = 0) : l = [48] := by
  have hl := h.lt
  by_cases h2 : 2 ≤ (figs l).length
  · have := h.ge h2
    rw [h0] at this
    have p : 0 < 10 ^ ((figs l).length - 1) := Nat.pow_pos (by decide)
    rw [Int.natAbs_zero] at this
    omega
  · have h1 := h.f1
    have ab := numV_abs h.ne
    rw [h0] at ab
    have hl := h.lead
    have ha := h.all
    cases e : figs l with
    | nil =>
      rw [e] at h1
      exact absurd h1 (by decide)
    | cons c r =>
      rw [e] at hl ha h2 ab
      have er : r = [] := by
        cases r with
        | nil => rfl
        | cons x y =>
          rw [List.length_cons, List.length_cons] at h2
          omega
      subst er
      rw [digitsVal_cons] at ab
      have hc := ha.head
      have : digitsVal [] = 0 := rfl
      rw [this] at ab
      have ec : c = 48 := by
        simp at ab
        omega
      exact hl (by rw [ec]; rfl)
theorem NumQ.mono {n k : Nat} {l : List Nat} (h : NumQ n l) (e : (figs l).length ≤ k) : NumQ k l := ⟨h.f1, e, h.all, h.lead⟩
/-- a number of 14 figures that is small has fewer -/
theorem NumQ.small {n k : Nat} {l : List Nat} (h : NumQ n l) (hk : 1 ≤ k) (hv : (numV l).natAbs < 10 ^ k) : NumQ k l := by
  refine h.mono ?_
  by_cases h2 : 2 ≤ (figs l).length
  · have := h.ge h2
    by_cases e : (figs l).length ≤ k
    · exact e
    · have p : 10 ^ k ≤ 10 ^ ((figs l).length - 1) := Nat.pow_le_pow_right (by decide) (by omega)
      omega
  · omega
theorem intText_num {n : Nat} {w : Str} (h : NumQ n (tl w)) (hw : w.length ≤ 4300) : intText? w = some (numV (tl w)) := by
  have ha := h.all
  cases e : tl w with
  | nil => exact absurd e h.ne
  | cons c r =>
    rw [e] at ha
    by_cases hc : c = 45
    · subst hc
      have h1 := h.f1
      rw [e, figs_neg] at h1
      exact intText_neg e ha (fun z => by rw [z] at h1; exact absurd h1 (by decide)) hw
    · rw [figs_pos hc] at ha
      rw [numV_pos hc, ← e]
      exact intText_digits (by show AllDigits (tl w); rw [e]; exact ha) (by show tl w ≠ []; rw [e]; exact fun z => by cases z) hw
theorem figs_ge (l : List Nat) : l.length ≤ (figs l).length + 1 := by
  cases l with
  | nil => exact Nat.zero_le _
  | cons c r =>
    by_cases hc : c = 45
    · subst hc
      rw [figs_neg]
      exact Nat.le_refl _
    · rw [figs_pos hc]
      omega
theorem NumQ.len {n : Nat} {w : Str} (h : NumQ n (tl w)) : w.length ≤ n + 1 := by
  have h1 := figs_ge (tl w)
  have h2 := h.fn
  rw [TL.len_tl]
  show (tl w).length ≤ _
  omega
end OG
set_option Elab.async false
set_option linter.all false
set_option maxRecDepth 100000
set_option maxHeartbeats 4000000
namespace OG
open PySem PySem.Spec PyProof.Rows L2
theorem lc_signs {x : Str} {te : TE} {sl : Nat} {σ : L2.St} {H1 : Hp} {D : Addr} {Qd : Hp → Prop} (f : Nat → Bool) (hx : x.length ≤ 16000000) (hD : H1 D = none)
    (hte : ∀ (c : Nat) (H' : Hp) (Q' : VK), Q' (.bl (f c)) H' → te ((wipe σ [sl]).set sl (some (.str ⟨#[c]⟩))) H' Q')
    (hw : ∀ v : Option V, wipe ((wipe σ [sl]).set sl v) [sl] = wipe σ [sl])
    (hd : ∀ (H6 : Hp), Same H1 H6 → H6 D = some (.lst (((tl x).map f).map V.bl)) → Qd H6) :
    ∃ W : Nat → Nat → Hp → Prop, (∃ m, W 0 m (upd H1 D (.lst []))) ∧ ∀ i n H, W i n H →
      ((Its x).stop i H ∧ Qd H) ∨ ((Its x).go i H ∧ ∃ Nx : Hp → Prop, (∀ H', Nx H' → ∃ m', m' < n ∧ W (i + 1) m' H') ∧ ∀ y H', (Its x).yld i H y H' → gName sl y (wipe σ [sl]) H' fun σ2 H2 => wipe σ2 [sl] = wipe σ [sl] ∧ tYes σ2 H2 fun b H3 =>
        if b = true then te σ2 H3 fun y H4 => ∃ acc, H4 D = some (.lst acc) ∧ acc.length < sizeLine ∧ Nx (upd H4 D (.lst (acc ++ [y]))) else Nx H3) := by
  have hl : (tl x).length = x.cps.size := Array.length_toList ..
  refine ⟨fun i n H => n = x.cps.size - i ∧ i ≤ x.cps.size ∧ Same H1 H ∧ H D = some (.lst ((((tl x).map f).take i).map V.bl)), ⟨_, rfl, Nat.zero_le _, same_new hD, upd_same⟩, ?_⟩
  rintro i n H ⟨rfl, hi, s, h1⟩
  by_cases hlt : i < x.cps.size
  · refine .inr ⟨hlt, fun H' => Same H1 H' ∧ H' D = some (.lst ((((tl x).map f).take (i + 1)).map V.bl)), fun H' p' => ⟨x.cps.size - (i + 1), by omega, rfl, hlt, p'⟩, fun v H' hy => ?_⟩
    obtain ⟨rfl, c, hc, rfl⟩ := hy
    refine ⟨hw _, ?_⟩
    refine hte c H' _ ?_
    have hc' : (tl x)[i]? = some c := by
      rw [← hc]
      exact Array.getElem?_toList
    refine ⟨_, h1, ?_, fun a o ho => ?_, ?_⟩
    · rw [List.length_map, List.length_take, List.length_map, hl]
      have hx' : x.cps.size ≤ 16000000 := hx
      exact Nat.lt_of_le_of_lt (show _ ≤ 16000000 by omega) (by decide)
    · rw [upd_ne (ne_of_none ho hD)]
      exact s _ _ ho
    · rw [upd_same, take_more (l := (tl x).map f) (i := i) (x := f c) (by rw [List.getElem?_map, hc']; rfl), List.map_append]
      rfl
  · have e : i = x.cps.size := by omega
    subst e
    refine .inl ⟨Nat.le_refl _, hd H s ?_⟩
    rw [List.take_of_length_le (by rw [List.length_map, hl]; exact Nat.le_refl _)] at h1
    exact h1
theorem lc_same {K : PySem.W.Frag} {a : Addr} {xs : List V} {te : TE} {sl : Nat} {σ : L2.St} {H1 : Hp} {D : Addr} {Qd : Hp → Prop} (f : V → V) (hx : xs.length ≤ 16000000) (ha : SqL K H1 a xs) (hD : H1 D = none)
    (hte : ∀ (x : V) (H' : Hp) (Q' : VK), x ∈ xs → Same H1 H' → (∀ H'', Same H' H'' → Q' (f x) H'') → te ((wipe σ [sl]).set sl (some x)) H' Q')
    (hw : ∀ v : Option V, wipe ((wipe σ [sl]).set sl v) [sl] = wipe σ [sl])
    (hd : ∀ (H6 : Hp), Same H1 H6 → H6 D = some (.lst (xs.map f)) → Qd H6) :
    ∃ W : Nat → Nat → Hp → Prop, (∃ m, W 0 m (upd H1 D (.lst []))) ∧ ∀ i n H, W i n H →
      ((Itl K a).stop i H ∧ Qd H) ∨ ((Itl K a).go i H ∧ ∃ Nx : Hp → Prop, (∀ H', Nx H' → ∃ m', m' < n ∧ W (i + 1) m' H') ∧ ∀ y H', (Itl K a).yld i H y H' → gName sl y (wipe σ [sl]) H' fun σ2 H2 => wipe σ2 [sl] = wipe σ [sl] ∧ tYes σ2 H2 fun b H3 =>
        if b = true then te σ2 H3 fun y H4 => ∃ acc, H4 D = some (.lst acc) ∧ acc.length < sizeLine ∧ Nx (upd H4 D (.lst (acc ++ [y]))) else Nx H3) := by
  refine lc_list (K := K) (a := a) (xs := xs) (fun i H' => Same H1 H' ∧ H' D = some (.lst ((xs.map f).take i))) ⟨same_new hD, upd_same⟩ (fun i H' _ ⟨s, _⟩ => s.seq ha) ?_ ?_
  · rintro i x H' hx' ⟨s, h1⟩
    have hi := (List.getElem?_eq_some_iff.mp hx').1
    refine ⟨hw _, ?_⟩
    refine hte x H' _ (List.mem_of_getElem? hx') s fun H'' s2 => ?_
    refine ⟨_, s2 _ _ h1, ?_, fun b o ho => ?_, ?_⟩
    · rw [List.length_take, List.length_map]
      exact Nat.lt_of_le_of_lt (show _ ≤ 16000000 by omega) (by decide)
    · rw [upd_ne (ne_of_none ho hD)]
      exact s2 _ _ (s _ _ ho)
    · rw [upd_same, take_more (l := xs.map f) (i := i) (x := f x) (by rw [List.getElem?_map, hx']; rfl)]
  · rintro H' ⟨s, h1⟩
    rw [List.take_of_length_le (by rw [List.length_map]; exact Nat.le_refl _)] at h1
    exact hd H' s h1
theorem all_id {α : Type} (l : List α) (f : α → Bool) : ((l.map f).all id) = l.all f := by
  rw [List.all_map]
  rfl
def isOf (w s : Str) : Bool := decide (0 < w.length) && (tl w).all fun c => decide (c ∈ tl s)
def fig10 : Str := "0123456789"
theorem fig_mem (c : Nat) : decide (c ∈ tl ("0123456789" : Str)) = (decide (48 ≤ c) && decide (c ≤ 57)) := by
  have e : tl ("0123456789" : Str) = [48, 49, 50, 51, 52, 53, 54, 55, 56, 57] := by decide +kernel
  rw [e]
  by_cases h : 48 ≤ c ∧ c ≤ 57
  · rw [decide_eq_true h.1, decide_eq_true h.2]
    refine decide_eq_true ?_
    rcases (show c = 48 ∨ c = 49 ∨ c = 50 ∨ c = 51 ∨ c = 52 ∨ c = 53 ∨ c = 54 ∨ c = 55 ∨ c = 56 ∨ c = 57 by omega) with e | e | e | e | e | e | e | e | e | e <;> rw [e] <;> decide
  · have : ¬ c ∈ [48, 49, 50, 51, 52, 53, 54, 55, 56, 57] := fun m => h (by
      simp only [List.mem_cons, List.mem_nil_iff, or_false] at m
      omega)
    rw [decide_eq_false this]
    by_cases h1 : 48 ≤ c
    · rw [decide_eq_true h1, decide_eq_false (fun h2 => h ⟨h1, h2⟩)]
      rfl
    · rw [decide_eq_false h1]
      rfl
theorem isOf_fig (w : Str) : isOf w "0123456789" = (decide (0 < (tl w).length) && digs (tl w)) := by
  unfold isOf digs
  rw [TL.len_tl]
  congr 1
  congr 1
  funext c
  exact fig_mem c
def isNmB (n : Nat) (z : Str) : Bool := decide (z.length ≤ n) && isOf z "abcdefghijklmnopqrstuvwxyz"
section
variable {P : Program} {w : World} {K : PySem.W.Frag} {mg : Str → Option Value} {base : Heap}
end
end OG
set_option Elab.async false
set_option linter.all false
set_option maxRecDepth 100000
set_option maxHeartbeats 8000000
namespace OG
open PySem PySem.Spec PyProof.Rows L2
theorem le_line {n : Nat} (h : n ≤ 16000000) : n ≤ sizeLine := Nat.le_trans h (by decide)
theorem starts0 (f : Str) : Txt.startswith f "0" = decide ((tl f).head? = some 48) := by
  unfold Txt.startswith
  rw [PySem.StrLaws.subAt_eq, List.drop_zero]
  have e1 : (("0" : Str).length) = 1 := rfl
  have e2 : (("0" : Str)).cps.toList = [48] := rfl
  rw [e1, e2, TL.len_tl]
  show (decide (0 + 1 ≤ (tl f).length) && (((tl f).take 1) == [48])) = _
  cases h : tl f with
  | nil => rfl
  | cons c r =>
    show (decide (0 + 1 ≤ r.length + 1) && ([c] == [48])) = decide (some c = some 48)
    rw [decide_eq_true (show 0 + 1 ≤ r.length + 1 by omega), Bool.true_and]
    by_cases hc : c = 48
    · rw [hc]
      rfl
    · rw [decide_eq_false (fun z => hc (Option.some.inj z))]
      simpa using hc
def oint (c : Bool) (n : Int) : V := if c then .int n else .non
theorem str_eq {a b : Str} : decide (V.str a = V.str b) = decide (tl a = tl b) := by
  by_cases h : a = b
  · rw [h, decide_eq_true rfl, decide_eq_true rfl]
  · rw [decide_eq_false (fun z => h (V.str.inj z)), decide_eq_false (fun z => h (TL.ext_tl z))]
section
variable {P : Program} {w : World} {K : PySem.W.Frag} {mg : Str → Option Value} {base : Heap}
def spIsOf : Sp := fun vs H Q _ => ∃ (w s : Str), vs = [.str w, .str s] ∧ w.length ≤ 10000000 ∧ ∀ H', Same H H' → Q (.bl (isOf w s)) H'
theorem ok_is_of (T : Txt K mg) : FnOk P w K mg base CX0 1 T.f_is_of T.fd_is_of ["word", "signs"] (spIsOf) := by
  refine T.F_is_of.ok sc_is_of (fun vs H Q E h => ?_) (fun cdv A outer s H vs Q E hr h => ?_)
  · obtain ⟨w, s, rfl, _⟩ := h
    rfl
  · obtain ⟨w, sg, rfl, hl, q⟩ := h
    refine ⟨_, (pss_one (ps_ret (pe_and (pe_cmpR op_gt (pe_callB call_len_str (by rfl) T.n_len PySem.boot_len (pa_cons (pv 0) pa_nil)) pe_int (nomark _)) (pe_one (pe_callB (cr_all rfl) (by rfl) T.n_all (by decide +kernel) (pa_cons (pe_lc (own := [("sign", 2)]) (g := gName 2) (by rfl) sc_is_of.nd (pi_str (pv 0)) (blkOk_by (own := [("sign", 2)]) (by rfl)) (fun _ _ _ _ _ => (pg_name (i := 2) sc_is_of.nd rfl (Or.inl rfl))) (fun _ _ _ _ _ => pts_nil) (fun _ _ _ _ _ => (pe_cmpR op_in_sign (pv 2) (pv 1) rfl))) pa_nil)))))), ?_⟩
    refine ⟨.str w, rfl, w, rfl, le_line (by omega), _, _, rfl, rfl, _, rfl, ?_⟩
    refine ite2 (fun h0 => ?_) (fun h0 => ?_)
    · refine ⟨.str w, rfl, w, rfl, fun D hD => ?_⟩
      refine lc_signs (x := w) (fun c => decide (c ∈ tl sg)) (by omega) hD (fun c H' Q' hq => ?_) (fun _ => rfl) (fun H6 s6 h6 => ?_)
      · exact ⟨_, rfl, .str sg, rfl, c, sg, rfl, rfl, hq⟩
      · refine ⟨D, (tl w).map fun c => decide (c ∈ tl sg), rfl, SqL.of h6, ?_⟩
        rw [all_id]
        have e := q H6 s6
        unfold isOf at e
        have h0 : 0 < (w.length : Int) := of_decide_eq_true h0
        rw [decide_eq_true (show 0 < w.length by omega), Bool.true_and] at e
        exact e
    · have e := q H (Same.refl H)
      unfold isOf at e
      have h0 : ¬ 0 < (w.length : Int) := of_decide_eq_false (Bool.eq_false_iff.mpr h0)
      rw [decide_eq_false (show ¬ 0 < w.length by omega), Bool.false_and] at e
      exact e
def spIsLetters : Sp := fun vs H Q _ => ∃ (w : Str) (n : Nat), vs = [.str w, .int (n : Int)] ∧ w.length ≤ 10000000 ∧ ∀ H', Same H H' → Q (.bl (isNmB n w)) H'
theorem ok_is_letters (T : Txt K mg) : FnOk P w K mg base CX0 2 T.f_is_letters T.fd_is_letters ["word", "most"] (spIsLetters) := by
  refine T.F_is_letters.ok sc_is_letters (fun vs H Q E h => ?_) (fun cdv A outer s H vs Q E hr h => ?_)
  · obtain ⟨w, n, rfl, _⟩ := h
    rfl
  · obtain ⟨w, n, rfl, hl, q⟩ := h
    refine ⟨_, (pss_one (ps_ret (pe_and (pe_cmpR op_le (pe_callB call_len_str (by rfl) T.n_len PySem.boot_len (pa_cons (pv 0) pa_nil)) (pv 1) (nomark _)) (pe_one (pe_call (ok_is_of T) (hr.mono (by decide)) (by rfl) T.g_is_of T.F_is_of.kp T.b_is_of .nil pass0 (pa_cons (pv 0) (pa_cons (C8.pe_gc (by rfl) T.m_LETTERS) pa_nil))))))), ?_⟩
    refine ⟨.str w, rfl, w, rfl, le_line (by omega), .int n, rfl, _, _, rfl, rfl, _, rfl, ?_⟩
    refine ite2 (fun h0 => ?_) (fun h0 => ?_)
    · have h0 : (w.length : Int) ≤ n := of_decide_eq_true h0
      refine ⟨.str w, rfl, w, _, rfl, hl, fun H' s' => ?_⟩
      have e := q H' s'
      unfold isNmB at e
      rw [decide_eq_true (show w.length ≤ n by omega), Bool.true_and] at e
      exact e
    · have h0 : ¬ (w.length : Int) ≤ n := of_decide_eq_false (Bool.eq_false_iff.mpr h0)
      have e := q H (Same.refl H)
      unfold isNmB at e
      rw [decide_eq_false (show ¬ w.length ≤ n by omega), Bool.false_and] at e
      exact e
def spIntOf : Sp := fun vs H Q _ => ∃ (w : Str) (n : Nat), vs = [.str w, .int (n : Int)] ∧ w.length ≤ 10000000 ∧ n ≤ 600 ∧ ∀ H', Same H H' → Q (oint (numQ n (tl w)) (numV (tl w))) H'
theorem ok_integer_of (T : Txt K mg) : FnOk P w K mg base CX0 2 T.f_integer_of T.fd_integer_of ["word", "most"] (spIntOf) := by
  refine T.F_integer_of.ok sc_integer_of (fun vs H Q E h => ?_) (fun cdv A outer s H vs Q E hr h => ?_)
  · obtain ⟨w, n, rfl, _⟩ := h
    rfl
  · obtain ⟨w, n, rfl, hl, hn, q⟩ := h
    refine ⟨_, (pss_cons (ps_set (i := 2) sc_integer_of.nd rfl (Or.inl rfl) (pe_bm PySem.F.plainAttrs_str PySem.F.slot_str_removeprefix PySem.F.type_str_removeprefix mt_removeprefix (pv 0) (pa_cons pe_str pa_nil)))
  (pss_cons (ps_if (PW.pt (pw_or (pt_cmpR op_gt (pe_callB call_len_str (by rfl) T.n_len PySem.boot_len (pa_cons (pv 2) pa_nil)) (pv 1) (nomark _)) (pw_or1 (pt_not (pt_val (pe_call (ok_is_of T) (hr.mono (by decide)) (by rfl) T.g_is_of T.F_is_of.kp T.b_is_of .nil pass0 (pa_cons (pv 2) (pa_cons (C8.pe_gc (by rfl) T.m_FIGURES) pa_nil)))))))) (pss_one (ps_ret pe_non)) pss_nil)
  (pss_cons (ps_if (PW.pt (pw_or (pt_cmpR op_eq (pv 0) pe_str (nomark _)) (pw_or1 (PW.pt (pw_and (pt_val (pe_m1 PySem.F.slot_str_startswith PySem.F.type_str_startswith mt_startswith (pv 2) pe_str)) (pw_and1 (pt_cmpR op_gt (pe_callB call_len_str (by rfl) T.n_len PySem.boot_len (pa_cons (pv 2) pa_nil)) pe_int (nomark _)))))))) (pss_one (ps_ret pe_non)) pss_nil)
  (pss_one (ps_ret (pe_callTy call_int_str (by rfl) T.n_int (by decide +kernel) (pa_cons (pv 0) pa_nil))))))), ?_⟩
    refine ⟨.str w, rfl, rfl, w, _, rfl, rfl, le_line (by omega), ?_⟩
    generalize hf : Txt.removeprefix w "-" = f
    have hft : tl f = figs (tl w) := by rw [← hf]; exact rp w
    have hfl : f.length = (figs (tl w)).length := by rw [TL.len_tl]; exact congrArg List.length hft
    have hfw : f.length ≤ 10000000 := by
      have := figs_le (tl w)
      rw [hfl]
      rw [TL.len_tl] at hl
      exact Nat.le_trans this hl
    have no : ∀ H', Same H H' → numQ n (tl w) = false → Q .non H' := fun H' s' e => by
      have e2 := q H' s'
      rw [e] at e2
      exact e2
    refine ⟨.str f, rfl, f, rfl, le_line (by omega), .int n, rfl, _, _, rfl, rfl, _, rfl, ?_⟩
    refine ite2 (fun h0 => ?_) (fun h0 => ?_)
    · have h0 : (n : Int) < f.length := of_decide_eq_true h0
      refine no H (Same.refl H) ?_
      unfold numQ
      rw [decide_eq_false (show ¬ (figs (tl w)).length ≤ n by omega), Bool.and_false, Bool.false_and, Bool.false_and]
    · have h0 : ¬ (n : Int) < f.length := of_decide_eq_false (Bool.eq_false_iff.mpr h0)
      refine ⟨.str f, rfl, f, _, rfl, hfw, fun H1 s1 => ?_⟩
      rw [isOf_fig, hft]
      refine ⟨_, rfl, ?_⟩
      generalize hc1 : (decide (0 < (figs (tl w)).length) && digs (figs (tl w))) = c1
      cases c1 with
      | false =>
        refine no H1 s1 ?_
        unfold numQ
        rw [Bool.and_eq_false_iff, decide_eq_false_iff_not] at hc1
        rcases hc1 with e | e
        · rw [decide_eq_false (show ¬ 1 ≤ (figs (tl w)).length by omega), Bool.false_and, Bool.false_and, Bool.false_and]
        · rw [e, Bool.and_false, Bool.false_and]
      | true =>
        rw [Bool.and_eq_true, decide_eq_true_eq] at hc1
        have base : numQ n (tl w) = !(decide ((figs (tl w)).head? = some 48) && !decide (tl w = [48])) := by
          unfold numQ
          rw [decide_eq_true (show 1 ≤ (figs (tl w)).length by omega), decide_eq_true (show (figs (tl w)).length ≤ n by omega), hc1.2]
          rfl
        refine ⟨.str w, rfl, rfl, _, rfl, ?_⟩
        rw [str_eq]
        have em : tl ("-0" : Str) = [45, 48] := rfl
        rw [em]
        refine ite2 (fun hm => ?_) (fun hm => ?_)
        · have hm : tl w = [45, 48] := of_decide_eq_true hm
          refine no H1 s1 ?_
          rw [base, hm]
          rfl
        · have hm : ¬ tl w = [45, 48] := of_decide_eq_false (Bool.eq_false_iff.mpr hm)
          refine ⟨.str f, rfl, ⟨_, rfl⟩, f, _, rfl, rfl, _, rfl, ?_⟩
          rw [starts0, hft]
          have fin : ∀ H2, Same H H2 → numQ n (tl w) = true → ∃ (a : Str) (n_1 : Int), [V.str w] = [V.str a] ∧ PySem.intText? a = some n_1 ∧ a.length ≤ 640 ∧ Q (.int n_1) H2 := fun H2 s2 e => by
            have nq := numQ_iff.mp e
            have wl := nq.len
            refine ⟨w, _, rfl, intText_num nq (by omega), by omega, ?_⟩
            have e2 := q H2 s2
            rw [e] at e2
            exact e2
          refine ite2 (fun hs => ?_) (fun hs => ?_)
          · have hs : (figs (tl w)).head? = some 48 := of_decide_eq_true hs
            refine ⟨.str f, rfl, f, rfl, le_line (by omega), _, _, rfl, rfl, _, rfl, ?_⟩
            refine ite2 (fun h2 => ?_) (fun h2 => ?_)
            · have h2 : 1 < (f.length : Int) := of_decide_eq_true h2
              refine no H1 s1 ?_
              rw [base, decide_eq_true hs]
              by_cases e : tl w = [48]
              · rw [e] at hfl
                have : (figs [48]).length = 1 := rfl
                omega
              · rw [decide_eq_false e]
                rfl
            · have h2 : ¬ 1 < (f.length : Int) := of_decide_eq_false (Bool.eq_false_iff.mpr h2)
              refine ⟨_, rfl, fin H1 s1 ?_⟩
              rw [base, decide_eq_true hs]
              have e : tl w = [48] := by
                cases hw : tl w with
                | nil =>
                  rw [hw] at hs
                  cases hs
                | cons c r =>
                  rw [hw] at hs hfl hm
                  by_cases hc : c = 45
                  · subst hc
                    rw [figs_neg] at hs hfl
                    cases r with
                    | nil => cases hs
                    | cons d r' =>
                      have ed : d = 48 := Option.some.inj hs
                      rw [List.length_cons] at hfl
                      have er : r' = [] := List.eq_nil_of_length_eq_zero (by omega)
                      rw [ed, er] at hm
                      exact absurd rfl hm
                  · rw [figs_pos hc] at hs hfl
                    have ed : c = 48 := Option.some.inj hs
                    rw [List.length_cons] at hfl
                    have er : r = [] := List.eq_nil_of_length_eq_zero (by omega)
                    rw [ed, er]
              rw [decide_eq_true e]
              rfl
          · have hs : ¬ (figs (tl w)).head? = some 48 := of_decide_eq_false (Bool.eq_false_iff.mpr hs)
            refine ⟨_, rfl, fin H1 s1 ?_⟩
            rw [base, decide_eq_false hs]
            rfl
def spNum : Sp := fun vs H Q _ => ∃ (w : Str), vs = [.str w] ∧ w.length ≤ 10000000 ∧ ∀ H', Same H H' → Q (oint (numQ 14 (tl w)) (numV (tl w))) H'
theorem cut1_iff (w : Str) : decide (V.str (cutS w none (some 1)) = V.str "-") = decide ((tl w).head? = some 45) := by
  rw [str_eq]
  have e1 : tl (cutS w none (some 1)) = (tl w).take 1 := by
    unfold cutS
    show (((tl w).drop (HT.sIx w.length 0 none)).take (HT.sIx w.length w.length (some ((1 : Nat) : Int)) - HT.sIx w.length 0 none)).toArray.toList = _
    rw [HT.sIx_none, HT.sIx_nat, List.drop_zero, Nat.sub_zero, TL.len_tl]
    show (tl w).take (min 1 (tl w).length) = _
    rw [List.take_eq_take_iff]
    omega
  have e2 : tl ("-" : Str) = [45] := rfl
  rw [e1, e2]
  cases h : tl w with
  | nil => rfl
  | cons c r =>
    by_cases hc : c = 45
    · rw [hc]
      rfl
    · show decide ([c] = [45]) = decide (some c = some 45)
      rw [decide_eq_false (fun z => hc (List.cons.inj z).1), decide_eq_false (fun z => hc (Option.some.inj z))]
theorem cut_tail (w : Str) : tl (cutS w (some 1) none) = (tl w).drop 1 := by
  unfold cutS
  show (((tl w).drop (HT.sIx w.length 0 (some ((1 : Nat) : Int)))).take (HT.sIx w.length w.length none - HT.sIx w.length 0 (some ((1 : Nat) : Int)))).toArray.toList = _
  rw [HT.sIx_none, HT.sIx_nat, TL.len_tl]
  show ((tl w).drop (min 1 (tl w).length)).take ((tl w).length - min 1 (tl w).length) = _
  cases h : tl w with
  | nil => rfl
  | cons c r =>
    rw [List.length_cons, show min 1 (r.length + 1) = 1 by omega, List.drop_succ_cons, List.drop_zero, Nat.add_sub_cancel, List.take_length]
def spIsName : Sp := fun vs H Q _ => ∃ (w : Str), vs = [.str w] ∧ w.length ≤ 10000000 ∧ ∀ H', Same H H' → Q (.bl (isNmB 4 w)) H'
def wokB (b n : Int) : Bool := if b = 0 then decide (-1000000000000 ≤ n) && decide (n ≤ 1000000000000) else decide (0 ≤ n) && decide (n < b)
def spIsWorth : Sp := fun vs H Q _ => ∃ (b n : Int) (c : Bool), vs = [.int b, oint c n] ∧ ∀ H', Same H H' → Q (.bl (c && wokB b n)) H'
theorem abs_le {n : Int} : decide ((if n < 0 then -n else n) ≤ (1000000000000 : Int)) = (decide (-1000000000000 ≤ n) && decide (n ≤ 1000000000000)) := by
  by_cases h : n < 0
  · rw [if_pos h]
    by_cases h2 : -1000000000000 ≤ n
    · rw [decide_eq_true (show -n ≤ 1000000000000 by omega), decide_eq_true h2, decide_eq_true (show n ≤ 1000000000000 by omega)]
      rfl
    · rw [decide_eq_false (show ¬ -n ≤ 1000000000000 by omega), decide_eq_false h2]
      rfl
  · rw [if_neg h, decide_eq_true (show -1000000000000 ≤ n by omega), Bool.true_and]
def spIsNumber : Sp := fun vs H Q _ => ∃ (w : Str) (b : Int), vs = [.str w, .int b] ∧ w.length ≤ 10000000 ∧ 0 ≤ b ∧ b ≤ 97 ∧ ∀ H', Same H H' → Q (.bl (numQ 14 (tl w) && wokB b (numV (tl w)))) H'
theorem num1314 {b : Int} {l : List Nat} (b97 : b ≤ 97) : (numQ 14 l && wokB b (numV l)) = (numQ 13 l && wokB b (numV l)) := by
  cases h : numQ 13 l with
  | true =>
    have := numQ_iff.mp h
    rw [numQ_iff.mpr (this.mono (k := 14) (Nat.le_trans this.fn (by decide)))]
  | false =>
    rw [Bool.false_and]
    cases h2 : numQ 14 l with
    | false => rfl
    | true =>
      rw [Bool.true_and]
      have n14 := numQ_iff.mp h2
      by_cases hw : (numV l).natAbs < 10 ^ 13
      · rw [numQ_iff.mpr (n14.small (by decide) hw)] at h
        cases h
      · have e : (10 : Nat) ^ 13 = 10000000000000 := by decide
        rw [e] at hw
        unfold wokB
        by_cases hb : b = 0
        · rw [if_pos hb, Bool.and_eq_false_iff, decide_eq_false_iff_not, decide_eq_false_iff_not]
          omega
        · rw [if_neg hb, Bool.and_eq_false_iff, decide_eq_false_iff_not, decide_eq_false_iff_not]
          omega
theorem ok_is_number (T : Txt K mg) : FnOk P w K mg base CX0 3 T.f_is_number T.fd_is_number ["word", "by"] (spIsNumber) := by
  refine T.F_is_number.ok sc_is_number (fun vs H Q E h => ?_) (fun cdv A outer s H vs Q E hr h => ?_)
  · obtain ⟨w, b, rfl, _⟩ := h
    rfl
  · obtain ⟨w, b, rfl, hl, b0, b97, q⟩ := h
    refine ⟨_, (pss_cons (ps_set (i := 2) sc_is_number.nd rfl (Or.inl rfl) (pe_call (ok_integer_of T) (hr.mono (by decide)) (by rfl) T.g_integer_of T.F_integer_of.kp T.b_integer_of .nil pass0 (pa_cons (pv 0) (pa_cons pe_int pa_nil))))
  (pss_cons (ps_if (pt_cmpR op_isN (pv 2) pe_non (nomark _)) (pss_one (ps_ret pe_bl)) pss_nil)
  (pss_one (ps_ret (pe_ifExp (pt_cmpR op_gt (pv 1) pe_int (nomark _)) (pe_chain op_le op_lt pe_int (pv 2) (pv 1)) (pe_cmpR op_le (pe_callB call_abs (by rfl) T.n_abs (by decide +kernel) (pa_cons (pv 2) pa_nil)) (C8.pe_gc (by rfl) T.m_GREATEST) (nomark _))))))), ?_⟩
    refine ⟨.str w, rfl, w, 13, rfl, hl, by decide, fun H1 s1 => ?_⟩
    have q := q H1 s1
    rw [num1314 b97] at q
    generalize numV (tl w) = n at *
    cases hc : numQ 13 (tl w) with
    | false =>
      rw [hc] at q
      exact ⟨_, rfl, rfl, _, rfl, q⟩
    | true =>
      rw [hc, Bool.true_and] at q
      unfold wokB at q
      refine ⟨_, rfl, rfl, _, rfl, ?_⟩
      refine ⟨.int b, rfl, _, _, rfl, rfl, _, rfl, ?_⟩
      refine ite2 (fun hb => ?_) (fun hb => ?_)
      · have hb : 0 < b := of_decide_eq_true hb
        rw [if_neg (show ¬ b = 0 by omega)] at q
        refine ⟨.int n, rfl, _, _, rfl, rfl, _, rfl, ?_⟩
        refine ite2 (fun h0 => ?_) (fun h0 => ?_)
        · have h0 : 0 ≤ n := of_decide_eq_true h0
          refine ⟨.int b, rfl, _, _, rfl, rfl, ?_⟩
          rw [decide_eq_true h0, Bool.true_and] at q
          exact q
        · have h0 : ¬ 0 ≤ n := of_decide_eq_false (Bool.eq_false_iff.mpr h0)
          rw [decide_eq_false h0, Bool.false_and] at q
          exact q
      · have hb : ¬ 0 < b := of_decide_eq_false (Bool.eq_false_iff.mpr hb)
        rw [if_pos (show b = 0 by omega)] at q
        refine ⟨.int n, rfl, n, rfl, _, _, rfl, rfl, ?_⟩
        rw [← abs_le] at q
        exact q
end
end OG
set_option Elab.async false
set_option linter.all false
set_option maxRecDepth 100000
set_option maxHeartbeats 4000000
namespace OG
open PySem PySem.Spec PyProof.Rows L2
theorem inV_str (z : Str) (ms : List Str) : inV (.str z) (ms.map V.str) = decide (z ∈ ms) := by
  unfold inV
  rw [List.any_map]
  by_cases h : z ∈ ms
  · rw [decide_eq_true h, List.any_eq_true]
    exact ⟨z, h, by show (z == z) = true; exact beq_self_eq_true z⟩
  · rw [decide_eq_false h, List.any_eq_false]
    intro y hy e
    have e : (y == z) = true := e
    exact h (by rw [← eq_of_beq e]; exact hy)
theorem inV_int (z : Int) (ms : List Int) : inV (.int z) (ms.map V.int) = decide (z ∈ ms) := by
  unfold inV
  rw [List.any_map]
  by_cases h : z ∈ ms
  · rw [decide_eq_true h, List.any_eq_true]
    exact ⟨z, h, by show (z == z) = true; exact beq_self_eq_true z⟩
  · rw [decide_eq_false h, List.any_eq_false]
    intro y hy e
    have e : (y == z) = true := e
    exact h (by rw [← eq_of_beq e]; exact hy)
theorem inV_non (ms : List Int) : inV .non (ms.map V.int) = false := by
  unfold inV
  rw [List.any_map, List.any_eq_false]
  intro y hy e
  cases e
theorem flat_strs (ms : List Str) : (ms.map V.str).all flatV = true := by
  rw [List.all_map, List.all_eq_true]
  intro y _
  rfl
theorem flat_ints (ms : List Int) : (ms.map V.int).all flatV = true := by
  rw [List.all_map, List.all_eq_true]
  intro y _
  rfl
theorem nm_abc {n : Nat} {z : Str} (h : isNmB n z = true) : 0 < z.length ∧ z.length ≤ n ∧ ∀ c ∈ tl z, c ∈ abc := by
  unfold isNmB isOf at h
  rw [Bool.and_eq_true, Bool.and_eq_true, decide_eq_true_eq, decide_eq_true_eq, List.all_eq_true] at h
  refine ⟨h.2.1, h.1, fun c hc => ?_⟩
  have := of_decide_eq_true (h.2.2 c hc)
  rwa [show tl ("abcdefghijklmnopqrstuvwxyz" : Str) = abc from abc_tl] at this
theorem dp_strs {K : PySem.W.Frag} {H : Hp} : ∀ ms : List Str, DpAll K H (ms.map V.str) (ms.map PyData.str)
  | [] => .nil
  | z :: r => .cons (.str z) (dp_strs r)
theorem depth_strs : ∀ ms : List Str, PyData.depthAll (ms.map PyData.str) = 0
  | [] => by simp [PyData.depthAll]
  | z :: r => by
    rw [List.map_cons]
    simp [PyData.depthAll, PyData.depth, depth_strs r]
theorem lay_strs : ∀ {ms : List Str}, (∀ z ∈ ms, PyData.strOk z = true) → PyData.canLayAll0 (ms.map PyData.str) = true
  | [], _ => by simp [PyData.canLayAll0]
  | z :: r, h => by
    rw [List.map_cons]
    simp [PyData.canLayAll0, PyData.canLay0, lay_strs fun y hy => h y (List.mem_cons_of_mem _ hy), h z List.mem_cons_self]
theorem shaped_strs {ms : List Str} (h : ∀ z ∈ ms, PyData.strOk z = true) : SeqAt.shaped (.list (ms.map PyData.str)) = true := by
  unfold SeqAt.shaped
  rw [Bool.and_eq_true]
  refine ⟨?_, decide_eq_true ?_⟩
  · simp only [PyData.canLay0]
    exact lay_strs h
  · simp only [PyData.depth, depth_strs]
    decide
theorem shaped_nil : SeqAt.shaped (.list []) = true := shaped_strs (ms := []) fun _ h => by cases h
theorem eqv_nil (ms : List Str) : PyData.eqv (.list (ms.map PyData.str)) (.list []) = decide (ms = []) := by
  cases ms with
  | nil => simp [PyData.eqv, PyData.eqvAll]
  | cons z r => simp [PyData.eqv, PyData.eqvAll]
theorem strOk_nm {n : Nat} {z : Str} (h : isNmB n z = true) : PyData.strOk z = true := by
  have h3 := (nm_abc h).2.2
  unfold PyData.strOk
  rw [← Array.all_toList, List.all_eq_true]
  intro c hc
  have := h3 c hc
  unfold abc at this
  refine decide_eq_true ?_
  simp only [List.mem_cons, List.mem_nil_iff, or_false] at this
  omega
/-! lines of books -/
def okLine (b : Int) (w1 : Str) (rest : List Str) : Bool := isNmB 4 w1 && rest.all fun z => numQ 14 (tl z) && wokB b (numV (tl z))
/-- one line more, behind marks ms and kinds ks -/
def stepM (b : Int) (ms ks : List Str) : List Str → Option (List Str × List Str)
  | w0 :: w1 :: rest =>
    if okLine b w1 rest = true then
      if w0 = "mark" ∧ ks = [] ∧ ms.length < 4 ∧ w1 ∉ ms ∧ rest.length = 1 then (if rest = [("0" : Str)] then none else some (ms ++ [w1], ks))
      else if w0 = "kind" ∧ rest.length = ms.length * ms.length ∧ ms ≠ [] ∧ ks.length < 3 ∧ w1 ∉ ks then some (ms, ks ++ [w1])
      else none
    else none
  | _ => none
/-- how marks and kinds are between two lines -/
structure MkOk (ms ks : List Str) : Prop where
  m4 : ms.length ≤ 4
  k3 : ks.length ≤ 3
  m : ∀ z ∈ ms, isNmB 4 z = true
  k : ∀ z ∈ ks, isNmB 4 z = true
theorem MkOk.nil : MkOk [] [] := ⟨by decide, by decide, fun _ h => by (cases h), fun _ h => by (cases h)⟩
theorem stepM_eq (b : Int) (ms ks : List Str) (w0 w1 : Str) (rest : List Str) : stepM b ms ks (w0 :: w1 :: rest) =
    if okLine b w1 rest = true then
      if w0 = "mark" ∧ ks = [] ∧ ms.length < 4 ∧ w1 ∉ ms ∧ rest.length = 1 then (if rest = [("0" : Str)] then none else some (ms ++ [w1], ks))
      else if w0 = "kind" ∧ rest.length = ms.length * ms.length ∧ ms ≠ [] ∧ ks.length < 3 ∧ w1 ∉ ks then some (ms, ks ++ [w1])
      else none
    else none := rfl
theorem MkOk.step {b : Int} {ms ks ms' ks' ws : List Str} (h : MkOk ms ks) (e : stepM b ms ks ws = some (ms', ks')) : MkOk ms' ks' := by
  cases ws with
  | nil => cases e
  | cons w0 t =>
    cases t with
    | nil => cases e
    | cons w1 rest =>
      rw [stepM_eq] at e
      by_cases ho : okLine b w1 rest = true
      · rw [if_pos ho] at e
        unfold okLine at ho
        rw [Bool.and_eq_true] at ho
        by_cases hm : w0 = "mark" ∧ ks = [] ∧ ms.length < 4 ∧ w1 ∉ ms ∧ rest.length = 1
        · rw [if_pos hm] at e
          by_cases h0 : rest = [("0" : Str)]
          · rw [if_pos h0] at e
            cases e
          · rw [if_neg h0] at e
            have e := Option.some.inj e
            cases e
            refine ⟨by rw [List.length_append, List.length_singleton]; omega, h.k3, fun z hz => ?_, h.k⟩
            rcases List.mem_append.mp hz with q | q
            · exact h.m z q
            · rw [List.mem_singleton.mp q]
              exact ho.1
        · rw [if_neg hm] at e
          by_cases hk : w0 = "kind" ∧ rest.length = ms.length * ms.length ∧ ms ≠ [] ∧ ks.length < 3 ∧ w1 ∉ ks
          · rw [if_pos hk] at e
            have e := Option.some.inj e
            cases e
            refine ⟨h.m4, by rw [List.length_append, List.length_singleton]; omega, h.m, fun z hz => ?_⟩
            rcases List.mem_append.mp hz with q | q
            · exact h.k z q
            · rw [List.mem_singleton.mp q]
              exact ho.1
          · rw [if_neg hk] at e
            cases e
      · rw [if_neg ho] at e
        cases e
theorem zero_word {n : Nat} {z : Str} (h : numQ n (tl z) = true) : numV (tl z) = 0 ↔ z = "0" := by
  constructor
  · intro e
    have := (numQ_iff.mp h).zero e
    exact TL.ext_tl (this.trans rfl)
  · intro e
    rw [e]
    rfl
end OG
set_option Elab.async false
set_option linter.all false
set_option maxRecDepth 100000
set_option maxHeartbeats 8000000
namespace OG
open PySem PySem.Spec PyProof.Rows L2
/-- all but two stay -/
def K2 (a b : Addr) (H H' : Hp) : Prop := ∀ x o, x ≠ a → x ≠ b → H x = some o → H' x = some o
theorem Same.k2 {a b : Addr} {H H' : Hp} (s : Same H H') : K2 a b H H' := fun x o _ _ h => s x o h
def fNum : V → V
  | .str z => oint (numQ 14 (tl z)) (numV (tl z))
  | v => v
def fWor (b : Int) : V → V
  | .int n => .bl (wokB b n)
  | _ => .bl false
theorem fWor_oint (b n : Int) (c : Bool) : fWor b (oint c n) = .bl (c && wokB b n) := by
  cases c
  · rfl
  · rfl
theorem okLine_no {b : Int} {w1 : Str} {rest : List Str} {w0 : Str} {ms ks : List Str} (h : okLine b w1 rest = false) : stepM b ms ks (w0 :: w1 :: rest) = none := by
  rw [stepM_eq, if_neg (by rw [h]; decide)]
theorem eq_word {a b : Str} : decide (V.str a = V.str b) = decide (a = b) := by
  by_cases h : a = b
  · rw [h, decide_eq_true rfl, decide_eq_true rfl]
  · rw [decide_eq_false h, decide_eq_false fun z => h (V.str.inj z)]
theorem ne_of_none' {H : Hp} {a b : Addr} {o : HO} (h : H a = some o) (n : H b = none) : b ≠ a := fun z => by
  rw [z, h] at n
  cases n
section
variable {P : Program} {w : World} {K : PySem.W.Frag} {mg : Str → Option Value} {base : Heap}
def spCan (K : PySem.W.Frag) : Sp := fun vs H Q _ => ∃ (b : Int) (am ak aw : Addr) (ms ks words : List Str), vs = [.int b, .ref am, .ref ak, .ref aw] ∧ H am = some (.lst (ms.map V.str)) ∧ H ak = some (.lst (ks.map V.str)) ∧ am ≠ ak ∧ H aw = some (.lst (words.map V.str)) ∧ words ≠ [] ∧
  words.length ≤ 1000000 ∧ (∀ z ∈ words, z.length ≤ 10000000) ∧ MkOk ms ks ∧ 0 ≤ b ∧ b ≤ 97 ∧
  (stepM b ms ks words = none → ∀ H', K2 am ak H H' → Q (.bl false) H') ∧
  (∀ ms' ks', stepM b ms ks words = some (ms', ks') → ∀ H', K2 am ak H H' → H' am = some (.lst (ms'.map V.str)) → H' ak = some (.lst (ks'.map V.str)) → Q (.bl true) H')
end
end OG
set_option Elab.async false
set_option linter.all false
set_option maxRecDepth 100000
set_option maxHeartbeats 4000000
namespace OG
open PySem PySem.Spec PyProof.Rows L2
def primesL : List Int := [2, 3, 5, 7, 11, 13, 17, 19, 23, 29, 31, 37, 41, 43, 47, 53, 59, 61, 67, 71, 73, 79, 83, 89, 97]
theorem spl_ne (S : List Nat) (l : List Nat) : ∀ (k : Nat) (acc : List Nat), TL.spl S k acc l ≠ [] := by
  induction l with
  | nil =>
    intro k acc h
    unfold TL.spl at h
    cases h
  | cons c r ih =>
    intro k acc h
    cases k with
    | zero =>
      simp only [TL.spl] at h
      split at h
      · cases h
      · exact ih _ _ h
    | succ k =>
      simp only [TL.spl] at h
      exact ih _ _ h
theorem split_facts (z y : Str) (hy : y.length = 1) (h256 : y.cps.all (· < 256) = true) : Txt.split z y ≠ [] ∧ (Txt.split z y).length ≤ z.length + 1 ∧ ∀ p ∈ Txt.split z y, p.length ≤ z.length := by
  have hyn : TL.tl y ≠ [] := fun e => by
    have := TL.len_tl y
    rw [e, hy] at this
    cases this
  have e := TL.split_spl z y hyn (TL.kind_ok h256)
  have hne : Txt.split z y ≠ [] := fun n => by
    rw [n] at e
    exact spl_ne _ _ _ _ e.symm
  refine ⟨hne, ?_⟩
  have j := PySem.StrLaws.join_split z y
  have jt := congrArg TL.tl j
  rw [TL.tl_join] at jt
  have key : ∀ (S : List Nat) (ls : List (List Nat)), ls ≠ [] → S.length = 1 → (TL.joinL S ls).length + 1 = (ls.map fun l => l.length + 1).sum := by
    intro S ls
    induction ls with
    | nil => intro h _; exact absurd rfl h
    | cons p r ih =>
      intro _ hS
      cases r with
      | nil =>
        show p.length + 1 = _
        simp
      | cons q r' =>
        have ih := ih (by simp) hS
        show (p ++ (S ++ TL.joinL S (q :: r'))).length + 1 = _
        rw [List.length_append, List.length_append, List.map_cons, List.sum_cons, ← ih]
        omega
  have k := key (TL.tl y) ((Txt.split z y).map TL.tl) (by simpa using hne) (by rw [← TL.len_tl]; exact hy)
  rw [jt, ← TL.len_tl, List.map_map] at k
  have lens : ∀ ls : List Str, ls.length ≤ (ls.map ((fun l => l.length + 1) ∘ TL.tl)).sum ∧ ∀ p ∈ ls, p.length + 1 ≤ (ls.map ((fun l => l.length + 1) ∘ TL.tl)).sum := by
    intro ls
    induction ls with
    | nil => exact ⟨Nat.le_refl _, fun p h => by cases h⟩
    | cons p r ih =>
      rw [List.map_cons, List.sum_cons]
      have ep : ((fun l : List Nat => l.length + 1) ∘ TL.tl) p = p.length + 1 := by
        show (TL.tl p).length + 1 = _
        rw [← TL.len_tl]
      rw [ep]
      refine ⟨by rw [List.length_cons]; omega, fun q hq => ?_⟩
      rcases List.mem_cons.mp hq with e | e
      · rw [e]
        omega
      · have := ih.2 q e
        omega
  obtain ⟨l1, l2⟩ := lens (Txt.split z y)
  exact ⟨by omega, fun p hp => by have := l2 p hp; omega⟩
/-- by, from the words of the first line -/
def byM : List Str → Option Int
  | [w0, w1] => if w0 = "book" ∧ numQ 14 (tl w1) = true ∧ (numV (tl w1) = 0 ∨ numV (tl w1) ∈ primesL) then some (numV (tl w1)) else none
  | _ => none
theorem prime_le {n : Int} (h : n ∈ primesL) : 2 ≤ n ∧ n ≤ 97 := by
  unfold primesL at h
  simp only [List.mem_cons, List.mem_nil_iff, or_false] at h
  omega
theorem byM_ok {ws : List Str} {b : Int} (h : byM ws = some b) : 0 ≤ b ∧ b ≤ 97 := by
  unfold byM at h
  split at h
  · rename_i w0 w1
    by_cases c : w0 = "book" ∧ numQ 14 (tl w1) = true ∧ (numV (tl w1) = 0 ∨ numV (tl w1) ∈ primesL)
    · rw [if_pos c] at h
      have e := Option.some.inj h
      rw [← e]
      rcases c.2.2 with q | q
      · rw [q]
        decide
      · have := prime_le q
        omega
    · rw [if_neg c] at h
      cases h
  · cases h
def walkM (b : Int) : List Str → Nat → List Str → List Str → Nat ⊕ (List Str × List Str)
  | [], _, ms, ks => .inr (ms, ks)
  | l :: r, i, ms, ks => match stepM b ms ks (Txt.split l " ") with
    | none => .inl i
    | some mk => walkM b r (i + 1) mk.1 mk.2
/-- the number of the first wrong line -/
def wrongM (z : Str) : Option Nat :=
  match byM (Txt.split ((Txt.split z "\n").head?.getD "") " ") with
  | none => some 1
  | some b => match walkM b ((Txt.split z "\n").drop 1) 2 [] [] with
    | .inl i => some i
    | .inr mk => if mk.2 = [] then some ((Txt.split z "\n").length + 1) else none
def wV : Option Nat → V
  | none => .non
  | some n => .int (n : Int)
end OG
set_option Elab.async false
set_option linter.all false
set_option maxRecDepth 100000
set_option maxHeartbeats 8000000
namespace OG
open PySem PySem.Spec PyProof.Rows L2
/-- for i, x in enumerate(list): the pair is a new tuple at T -/
theorem for_enum {K : PySem.W.Frag} {a : Addr} {xs : List V} {g : TG} {tb : TS} {D : Ends} {σ : L2.St} {H : Hp} (Pv : Nat → L2.St → Hp → Prop) (h0 : Pv 0 σ H) (hq : ∀ i σ H, Pv i σ H → SqL K H a xs)
    (hs : ∀ (i : Nat) (x : V) (T : Addr) (σ : L2.St) (H : Hp), xs[i]? = some x → Pv i σ H → H T = none → g (.ref T) σ (upd H T (.tup [.int (i : Nat), x])) fun σ2 H2 => tb { D with nx := Pv (i + 1), ct := Pv (i + 1), bk := D.nx } σ2 H2) (hd : ∀ σ H, Pv xs.length σ H → D.nx σ H) :
    ∃ W : Nat → Nat → L2.St → Hp → Prop, (∃ m, W 0 m σ H) ∧ ∀ i m σ H, W i m σ H →
      ((Ite K a).stop i H ∧ D.nx σ H) ∨ ((Ite K a).go i H ∧ ∃ N : L2.St → Hp → Prop, (∀ σ' H', N σ' H' → ∃ m', m' < m ∧ W (i + 1) m' σ' H') ∧ ∀ v H', (Ite K a).yld i H v H' → g v σ H' fun σ2 H2 => tb { D with nx := N, ct := N, bk := D.nx } σ2 H2) := by
  refine ⟨fun i m σ H => m = xs.length - i ∧ i ≤ xs.length ∧ Pv i σ H, ⟨xs.length, rfl, Nat.zero_le _, h0⟩, ?_⟩
  rintro i m σ H ⟨rfl, hi, p⟩
  have q := hq i σ H p
  by_cases hlt : i < xs.length
  · refine .inr ⟨⟨xs, xs[i], q, List.getElem?_eq_getElem hlt⟩, Pv (i + 1), fun σ' H' p' => ⟨xs.length - (i + 1), by omega, rfl, hlt, p'⟩, fun v H' hy => ?_⟩
    obtain ⟨T, x, rfl, nT, rfl, f⟩ := hy
    exact hs i x T σ H (f xs q) p nT
  · have e : i = xs.length := by omega
    subst e
    exact .inl ⟨⟨xs, q, Nat.le_refl _⟩, hd σ H p⟩
/-- what a text or another value is -/
def NearV (H : Hp) : V → Prop
  | .non => True
  | .bl _ => True
  | .int _ => True
  | .str z => z.length ≤ 900000
  | .ref a => (∃ xs, H a = some (.lst xs)) ∨ (∃ xs, H a = some (.tup xs)) ∨ ∃ kvs, H a = some (.dK kvs)
  | _ => False
theorem NearV.same {H H' : Hp} (s : Same H H') : ∀ {v : V}, NearV H v → NearV H' v
  | .non, h => h
  | .bl _, h => h
  | .int _, h => h
  | .str _, h => h
  | .ref a, h => by
    rcases h with ⟨xs, h⟩ | ⟨xs, h⟩ | ⟨xs, h⟩
    · exact .inl ⟨xs, s _ _ h⟩
    · exact .inr (.inl ⟨xs, s _ _ h⟩)
    · exact .inr (.inr ⟨xs, s _ _ h⟩)
def isStr : V → Bool
  | .str _ => true
  | _ => false
/-- isinstance(v, str) -/
theorem isi_ty {K : PySem.W.Frag} {H : Hp} : ∀ {v : V}, NearV H v → ∃ t, TyX K H v t ∧ PySem.W.kitOne K t (.type "str") = some (isStr v)
  | .non, _ => ⟨_, .base .non, kit_ty (r := false) (by decide +kernel)⟩
  | .bl b, _ => ⟨_, .base (.bl b), kit_ty (r := false) (by decide +kernel)⟩
  | .int i, _ => ⟨_, .base (.int i), kit_ty (r := false) (by decide +kernel)⟩
  | .str z, _ => ⟨_, .base (.str z), kit_ty (r := true) (by decide +kernel)⟩
  | .ref a, h => by
    rcases h with ⟨xs, h⟩ | ⟨xs, h⟩ | ⟨xs, h⟩
    · exact ⟨_, .base (.lst h), kit_ty (r := false) (by decide +kernel)⟩
    · exact ⟨_, .base (.tup h), kit_ty (r := false) (by decide +kernel)⟩
    · exact ⟨_, .base (.dK h), kit_ty (r := false) (by decide +kernel)⟩
/-- what the law tells of a value: None, or a number of a line -/
def dueM : V → Option Nat
  | .str z => wrongM z
  | _ => some 0
section
variable {P : Program} {w : World} {K : PySem.W.Frag} {mg : Str → Option Value} {base : Heap}
def spPrimes : Sp := fun vs H Q _ => vs = [] ∧ ∀ (p : Addr) (H' : Hp), Same H H' → H' p = some (.lst (primesL.map V.int)) → Q (.ref p) H'
def spWrong : Sp := fun vs H Q _ => ∃ (v : V), vs = [v] ∧ NearV H v ∧ ∀ H', Same H H' → Q (wV (dueM v)) H'
end
end OG
set_option Elab.async false
set_option linter.all false
set_option maxRecDepth 100000
set_option maxHeartbeats 4000000
namespace OGX
open PySem PySem.Spec PyProof.Rows L2
/-- at a: an exception of the class cls that is kept, its dict at d -/
def ExV (cls : Value) (d : Option Addr) (a : Addr) : HO := .ext fun h => ∃ (oe : Obj) (vs : Array Value), h.get? a = some oe ∧ Zc cls d oe ∧ oe.data = .fields vs
theorem exV_ok {P : Program} {w : World} {H : Hp} {h : Heap} {a : Addr} {cls : Value} {d : Option Addr} {oe : Obj} {vs : Array Value} (e : h.get? a = some oe) (z : Zc cls d oe) (dd : oe.data = .fields vs) : ObjOk P w H h a (ExV cls d a) :=
  ⟨⟨oe, vs, e, z, dd⟩, ⟨_, e⟩, fun h1 h2 z k => by
    obtain ⟨oe, vs, e, z, dd⟩ := z
    exact ⟨oe, vs, k _ e, z, dd⟩⟩
section
variable {X : Cx} {pins : List (Addr × Obj)} {σ : L2.St} {H : Hp} {s : Shared}
theorem keepX {a : Addr} {cls : Value} {d : Option Addr} {oe : Obj} {vs : Array Value} (I : Inv X pins σ H s) (ha : s.heap.get? a = some oe) (hz : Zc cls d oe) (hd : oe.data = .fields vs) (na : H a = none) (n0 : X.s_0.heap.get? a = none) (nL : a ≠ X.env.locals) (np : ∀ p ∈ X.pn ++ pins, p.1 ≠ a) :
    Inv X pins σ (upd H a (ExV cls d a)) s := by
  have ne : ∀ {b : Addr} {o : HO}, H b = some o → b ≠ a := fun {b o} e z => by
    rw [z, na] at e
    cases e
  have b0 := I.base
  refine ⟨I.ok, I.os, I.bare, ?_, I.loc, I.cell, ?_, fun x c e => ?_, fun p hp => ?_, fun b o q => ?_, I.len⟩
  · exact {
      keep := fun b o q n hf hx => b0.keep b o q n hf hx
      slot := fun b o q n hf hx => b0.slot b o q n hf hx
      free := fun b o q n hx => by
        rw [upd_ne (fun z => by rw [z, n0] at q; cases q)]
        exact b0.free b o q n hx
      there := fun b o q hx => b0.there b o q hx
      tups := fun b xs q => by
        have e := b0.tups b xs q
        rw [upd_ne (ne e)]
        exact e
      frzs := fun b o v q => by
        have e := b0.frzs b o v q
        rw [upd_ne (ne e)]
        exact e
      tbls := fun b ps q => by
        obtain ⟨more, e⟩ := b0.tbls b ps q
        exact ⟨more, by rw [upd_ne (ne e)]; exact e⟩ }
  · rw [upd_ne (Ne.symm nL)]
    exact I.free
  · rw [upd_ne (fun z => ?_)]
    · exact I.freeC x c e
    · obtain ⟨v, o, ho, hc⟩ := I.cell x c e
      rw [z, ha] at ho
      cases ho
      rw [hd] at hc
      cases hc
  · obtain ⟨p1, p2, p3⟩ := I.pin p hp
    exact ⟨p1, by rw [upd_ne (np p hp)]; exact p2, p3⟩
  · by_cases hb : b = a
    · subst hb
      rw [upd_same] at q
      cases q
      exact exV_ok ha hz hd
    · rw [upd_ne hb] at q
      exact (I.hok b o q).stay (fun c v hc z => z) (fun c hc => by rw [upd_ne (ne hc)]; exact hc) (fun c xs hc => by rw [upd_ne (ne hc)]; exact hc)
end
/-- what the clause 'except x as n' wishes, the exception kept behind the suite -/
def wKeep (K : PySem.W.Frag) (c : Value) (i : Nat) (ts : Addr → Value → Option Addr → TS) (Wout : WX) (D : Ends) : WX := fun cls d σ H =>
  ∃ b, PySem.W.exmOne K cls c = some b ∧ (b = true → ∀ a, H a = none → ts a cls d { nx := fun σ' H' => H' a = none → D.nx (σ'.set i none) (upd H' a (ExV cls d a)), rt := fun _ _ => False, bk := fun _ _ => False, ct := fun _ _ => False } (σ.set i (some (.ref a))) H) ∧
    (b = false → Wout cls d σ H)
section
variable {X : Cx} {x n : Str} {c : Value} {i : Nat} {body suite : List Stmt} {b₀ : Stmt} {np pos pos' : Pos} {tb : WX → TS} {ts : Addr → Value → Option Addr → TS} {Wout : WX}
theorem ps_try_keep (hex : X.ex = []) (hs : X.stack = X.env :: X.outer) (hf : X.env.frame = some X.env.locals) (hN : X.N.Nodup) (hi : X.N[i]? = some n) (hln : X.env.kindOf n = some .local) (hc : Names X x c) (tk : Takes X Wout)
    (hb : ∀ (W : WX) (pn : List (Addr × Obj)) (xe : Value → Shared → Prop), Takes (X.tr pn xe) W → PassesOwn (model X.prog X.w) X.A X.env xe → PSs (X.tr pn xe) body (tb W))
    (hsu : ∀ (a : Addr) (oe : Obj) (cls : Value) (d : Option Addr) (pn : List (Addr × Obj)), Zc cls d oe → (∃ vs, oe.data = .fields vs) → PSs (X.suite a ((a, oe) :: pn)) (b₀ :: suite) (ts a cls d)) :
    PS X (.Try body [.ExceptHandler (some (.Name x np)) (some n) (b₀ :: suite) pos'] [] [] pos) (fun D σ H => tb (wKeep X.K c i ts Wout D) D σ H) := by
  refine ⟨fun pins s σ H D I h => ?_⟩
  have ok := I.ok
  have hfr : X.A.frames = some (X.env :: X.outer) := by rw [ok.frames, hs]
  have hloc : Loc X.env.scope n := .inl hln
  refine wpAny_Try_except ?_
  refine wpAny_mono ((hb (wKeep X.K c i ts Wout D) (X.pn ++ pins) (fun e s₁ => wpAny (model X.prog X.w) X.A (noteFrame e X.env) (fun _ s₂ => wpAny (model X.prog X.w) X.A (setFlight e none) (fun _ s₃ =>
    wpAny (model X.prog X.w) X.A (handleBy e X.env [.ExceptHandler (some (.Name x np)) (some n) (b₀ :: suite) pos']) (SP X pins D) X.xe s₃) X.xe s₂) X.xe s₁) (fun u s' xx => ?_) PassesOwn.looking).run [] s σ H D (I.toTry _) h) (fun f s1 hsp => ?_) (fun e s1 he => he)
  · -- the catch
    obtain ⟨a, B, sI, pins', σ', H', cls, d, rfl, J', nb, up, sky, na, os, ag, b, hb1, hyes, hno⟩ := xx
    have J : Inv X pins σ' H' sI := J'.ofTry ok
    have sky' : Sky B (X.env :: X.outer) a (Zc cls d) X.env.locals s'.heap := by rw [← hs]; exact sky
    show wpAny (model X.prog X.w) X.A (noteFrame (.ref a) X.env) _ _ _
    refine Sky.land Zc.steady hfr hf sky' fun h3 fl3 up3 => ?_
    have J3 : Inv X pins σ' H' { s' with heap := h3 } := J.landed nb fl3.1 (up.trans up3) os ag
    obtain ⟨oe3, vs3, he3, hz3, hd3⟩ := fl3.there
    have notFr : ∀ {h : Heap} {o : Obj} {vs : Array Value}, h.FunFrames B (X.env :: X.outer) → h.get? a = some o → o.data = .fields vs → a ∉ frs (X.env :: X.outer) := fun {h o vs} ff e dd hm => by
      obtain ⟨_, o', e', hnf⟩ := ff.mem hm
      rw [e] at e'; cases e'
      exact hnf _ dd
    have nfr := notFr fl3.2.2.1 he3 hd3
    have hB : B.get? a = none := fl3.2.1
    have nI : sI.heap.get? a = none := by
      cases q : sI.heap.get? a with
      | none => rfl
      | some o =>
        have e := nb a o q (by rw [hs]; exact nfr)
        rw [hB] at e
        cases e
    have n0 : X.s_0.heap.get? a = none := by
      cases q : X.s_0.heap.get? a with
      | none => rfl
      | some o =>
        obtain ⟨o', e⟩ := J.base.there a o q (by rw [hex]; simp)
        rw [nI] at e
        cases e
    have npin : ∀ p ∈ X.pn ++ pins, p.1 ≠ a := fun p hp z => by
      have e := (J.pin p hp).1
      rw [z, nI] at e
      cases e
    have nL : a ≠ X.env.locals := fun z => nfr (List.mem_filterMap.mpr ⟨X.env, List.mem_cons_self, by rw [hf, z]⟩)
    have nF : a ∉ X.fs := fun hm => by
      obtain ⟨e, he, q⟩ := List.mem_filterMap.mp hm
      exact nfr (List.mem_filterMap.mpr ⟨e, List.mem_cons_of_mem _ he, q⟩)
    have S3 := J3.suite he3 hd3 na nL nF
    refine wpAny_handleBy_cons (codeAny_handlers_test ?_) (by intro q; cases q)
    have LT : PySem.W.Looks (model X.prog X.w) h3 (typeOf (.ref a)) cls := fun A Q E s k q => wpAny_typeOf_ref (k _ _ he3) (by rw [hz3.1]; exact q)
    have LM := PySem.W.exm_one (M := model X.prog X.w) (J3.kIn) LT hb1
    have test : ∀ {Q : Value → Shared → Prop} {E : Value → Shared → Prop}, Q c { s' with heap := h3 } → wpAny (model X.prog X.w) (X.A.mark (some (.ref a))) (eval (.Name x np) X.env) Q E { s' with heap := h3 } := fun {Q E} q => by
      obtain ⟨hg, hdbg, hm | ⟨hm, hv, hnn⟩⟩ := hc
      · exact ld_glob (X := X.suite a ((a, oe3) :: (X.pn ++ pins))) S3 hg hm q hdbg
      · exact ld_blt (X := X.suite a ((a, oe3) :: (X.pn ++ pins))) S3 hg hm hv q hnn hdbg
    refine test (LM.here ?_)
    cases b with
    | true =>
      refine codeAny_handlers_suite_as ?_
      refine HandSPX.lands_againZ fl3 fun h4 fl4 up4 => ?_
      have J4 : Inv X pins σ' H' { s' with heap := h4 } := J.landed nb fl4.1 ((up.trans up3).trans up4) os ag
      obtain ⟨oe4, vs4, he4, hz4, hd4⟩ := fl4.there
      have S4 := J4.suite he4 hd4 na nL nF
      refine store_ok (X := X.suite a ((a, oe4) :: (X.pn ++ pins))) (v := .ref a) S4 hN hi hloc rfl (fun s5 S5 => ?_) (.inr hln)
      refine wpAny_mono ((hsu a oe4 cls d (X.pn ++ pins) hz4 ⟨_, hd4⟩).run [] s5 _ H' _ S5 (hyes rfl a na)) (fun f s6 hsp => ?_) (fun _ _ z => False.elim z)
      cases f with
      | next =>
        obtain ⟨σ6, H6, S6, q6⟩ := hsp
        obtain ⟨p1, p2, _⟩ := S6.pin (a, oe4) (List.mem_append_left _ List.mem_cons_self)
        have J6 : Inv X pins σ6 (upd H6 a (ExV cls d a)) s6 := keepX (S6.unsuite ok) p1 hz4 hd4 p2 n0 nL npin
        exact gone_ok J6 hN hi hln fun s7 J7 => ⟨_, _, J7, q6 p2⟩
      | brk =>
        obtain ⟨σ6, H6, S6, q6⟩ := hsp
        exact False.elim q6
      | cont =>
        obtain ⟨σ6, H6, S6, q6⟩ := hsp
        exact False.elim q6
      | ret u =>
        obtain ⟨v6, σ6, H6, S6, r6, q6⟩ := hsp
        exact False.elim q6
    | false =>
      show wpAny _ X.A (handleBy (.ref a) X.env []) _ _ _
      refine wpAny_handleBy_nil ?_
      obtain ⟨k1, k2, k3, oe, vs, T, oT, ts', he, hz, hd, h1, hr⟩ := id fl3
      unfold PySem.passOn
      refine wpAny_bind (wpAny_field he hd h1 ?_)
      rw [if_neg (show ¬ ((Value.ref T == Value.none) = true) from by simp)]
      have fin : wpAny (model X.prog X.w) X.A (setFlight (.ref a) X.env.frame) (fun _ s4 => wpAny (model X.prog X.w) X.A (throw (.ref a) : Sem Flow) (SP X pins D) X.xe s4) X.xe { s' with heap := h3 } := by
        rw [hf]
        refine HandSPX.setFlight_upZ fl3 fun h4 hh4 up4 => wpAny_throw (tk _ _ ?_)
        exact ⟨a, B, sI, pins, σ', H', cls, d, rfl, J, nb, (up.trans up3).trans up4, .inr (.inr (by rw [hs]; exact hh4)), na, os, ag, hno rfl⟩
      first
        | exact wpAny_bind (wpAny_pure (wpAny_bind fin))
        | exact wpAny_bind fin
  · cases f with
    | next =>
      obtain ⟨σ', H', J', q⟩ := hsp
      exact wpAny_execs_nil ⟨σ', H', J'.ofTry ok, q⟩
    | brk =>
      obtain ⟨σ', H', J', q⟩ := hsp
      exact ⟨σ', H', J'.ofTry ok, q⟩
    | cont =>
      obtain ⟨σ', H', J', q⟩ := hsp
      exact ⟨σ', H', J'.ofTry ok, q⟩
    | ret u =>
      obtain ⟨v, σ', H', J', r, q⟩ := hsp
      exact ⟨v, σ', H', J'.ofTry ok, r, q⟩
end
/-- e.f, e a kept exception -/
def tXv (C : Addr) (f : Str) (te : TE) : TE := fun σ H Q => te σ H fun x H1 => ∃ (a dd : Addr) (fs : List (Str × V)) (v : V), x = .ref a ∧ H1 a = some (ExV (.ref C) (some dd) a) ∧ H1 dd = some (.xd fs) ∧ fs.lookup f = some v ∧ Q v H1
theorem pe_xv {X : Cx} {C : Addr} {e : Expr} {te : TE} {pos : Pos} {n : Str} (T : XfC X.K C) (hno : PySem.W.findIn X.K (.ref C) n = some none)
    (he : PE X e te) (hb : attributeBase e n X.env (eval e X.env) = eval e X.env := by rfl) :
    PE X (.Attribute e n pos) (tXv C n te) := by
  refine ⟨fun pins s σ H Q I h => ?_⟩
  refine attr_of hb (thn (he.run pins s σ H _ I h) fun u s1 hh => ?_)
  obtain ⟨x, H1, I1, rx, a, dd, fs, v, ex, eo, ea, l, q⟩ := hh
  subst ex
  obtain rfl : u = Value.ref a := rx
  obtain ⟨⟨oe, vs, ha, hz, hd⟩, _, _⟩ := I1.hok a _ eo
  have hx : ObjOk X.prog X.w H1 s1.heap dd (.xd fs) := I1.hok dd _ ea
  obtain ⟨mA, hns, hr⟩ := hx
  obtain ⟨od, ho, hl⟩ := lookIn_ns hns
  obtain ⟨u, hu, ru⟩ := RelO.some_of (v := v) (o := mA n) (by rw [← l]; exact hr n)
  have J : PySem.W.InstAt s1.heap a oe C (some od) := ⟨ha, hz.1, by unfold PySem.W.notCls; rw [hd] <;> rfl, by rw [hz.2]; exact ho⟩
  exact HandSPX.exc_get I1.kIn J T.ga T.gg T.exC (PySem.W.findObj_own T.hdC hno rfl (by rw [hl, hu])) (handed_of ru) ⟨v, H1, I1.tok _, ru, q⟩
/-- isinstance(e, c), e a kept exception -/
def rIsK (K : PySem.W.Frag) : List V → Hp → VK → Prop := fun xs H Q => ∃ (a D : Addr) (d : Addr) (fs : List (Str × V)) (c : V) (cv : Value) (b : Bool), xs = [.ref a, c] ∧ H a = some (ExV (.ref D) (some d) a) ∧ H d = some (.xd fs) ∧ ExcC K D ∧ (∀ u, RelV c u → u = cv) ∧ PySem.W.kitOne K (.ref D) cv = some b ∧ Q (.bl b) H
theorem call_isK {X : Cx} : CallR X (.builtin "isinstance") (rIsK X.K) := by
  intro pins s σ H xs us Q I r h
  obtain ⟨a, D, d, fs, c, cv, b, rfl, ha, hfs, C, hcv, e, q⟩ := h
  cases r with
  | cons rx rr =>
    cases rr with
    | cons rt rr =>
      cases rr
      cases rx
      have ec := hcv _ rt
      subst ec
      obtain ⟨⟨oe, vs, hget, hz, hd⟩, _, _⟩ := I.hok a _ ha
      have hx : ObjOk X.prog X.w H s.heap d (.xd fs) := I.hok d _ hfs
      obtain ⟨mA, hns, hr⟩ := hx
      obtain ⟨od, ho, hl⟩ := lookIn_ns hns
      have J : PySem.W.InstAt s.heap a oe D (some od) := ⟨hget, hz.1, by unfold PySem.W.notCls; rw [hd] <;> rfl, by rw [hz.2]; exact ho⟩
      obtain ⟨cdD, hcD, _⟩ := PySem.W.any_some C.hd
      exact PySem.W.kia_one (PySem.W.kitx_exc (by rw [hcD]; rfl) C.hg C.hk C.hs C.ha C.hn C.ht C.hm) I.kIn J e (fun z => nomatch z) fun tk => ⟨.bl b, H, I.kept (t' := tk) fun _ _ z => z, rfl, q⟩
end OGX
set_option Elab.async false
set_option linter.all false
set_option maxRecDepth 100000
set_option maxHeartbeats 4000000
namespace OGX
open PySem PySem.Spec PyProof.Rows L2
/-- the list at a as it stands at each turn, each item in a new pair behind its number from m on -/
def IteS (K : PySem.W.Frag) (a : Addr) (m : Nat) : It :=
  ⟨fun i H => ∃ (xs : List V) (x : V), SqL K H a xs ∧ xs[i]? = some x, fun i H v H' => ∃ T x, v = .ref T ∧ H T = none ∧ H' = upd H T (.tup [.int ((m + i : Nat) : Int), x]) ∧ ∀ xs, SqL K H a xs → xs[i]? = some x, fun i H => ∃ xs : List V, SqL K H a xs ∧ xs.length ≤ i⟩
theorem turn_enumS {P : Program} {w : World} {K : PySem.W.Frag} {elts : List Expr} {kk : Nat} {tpos : Pos} (m : Nat) (a e it : Addr) (hea : e ≠ a) (hia : a ≠ it) :
    Turn P w K (.Tuple elts kk tpos) (IteS K a m) [e, it] e (fun i h => (∃ old, IsEnum h e it ((m + i : Nat) : Int) old) ∧ h.IsListIter it a i ∧ e ≠ it) where
  mem := by simp
  obj := fun i h st b hb => by
    obtain ⟨⟨old, he⟩, ⟨o, ho, hc, hd⟩, _⟩ := st
    have e' : b = e ∨ b = it := by simpa using hb
    rcases e' with z | z
    · rw [z]; exact ⟨_, he, fun v q => nomatch q⟩
    · rw [z]; exact ⟨o, ho, fun v q => by rw [hd] at q; cases q⟩
  keep := fun i h h' st k => let ⟨⟨old, he⟩, hi, hne⟩ := st; ⟨⟨old, k e (by simp) _ he⟩, hi.at fun o q => k it (by simp) o q, hne⟩
  item := by
    intro X hP hw hK hc i pins s σ H E I hf st hg
    subst hP hw hK
    obtain ⟨⟨old, he⟩, hit, hne⟩ := st
    obtain ⟨xs, x, hq, hx⟩ := hg
    obtain ⟨its, rv, p, hz⟩ := I.list hq
    obtain ⟨u, hu, ru⟩ := rv.get hx
    have hel : e < s.heap.objs.size := Heap.lt_size he
    have hil : it < s.heap.objs.size := by obtain ⟨_, q, _⟩ := hit; exact Heap.lt_size q
    have hlt : i < its.toArray.size := by
      have := (List.getElem?_eq_some_iff.mp hu).1
      simpa using this
    refine wpAny_pyNext_enum_itemC (Draws.list (A := X.A.in1) (I.ok.hd hc) it a hia its.toArray) he ⟨hit, p.isList⟩ hlt hne (by simp [hne, hea]) fun u2 h' tk hu2 ho st' hT hsz hk => ?_
    have e2 : u2 = u := by
      have q : its.toArray[i]? = some u := by simpa using hu
      rw [q] at hu2
      exact (Option.some.inj hu2).symm
    subst e2
    obtain ⟨hit', _⟩ := st'
    refine ⟨_, rfl, wpAny_letOwnedTupleGo_enum (s := { s with heap := h', toks := tk + 1 }) ho fun h'' he' sb => ?_⟩
    have hT2 : h''.get? s.heap.objs.size = some { cls := .type "tuple", data := .seq #[.int ((m + i : Nat) : Int) tk, u2] } := (sb.2 _ (Nat.ne_of_gt hel)).trans hT
    have new : ObjOk X.prog X.w (upd H s.heap.objs.size (.tup [.int ((m + i : Nat) : Int), x])) h'' s.heap.objs.size (.tup [.int ((m + i : Nat) : Int), x]) :=
      ⟨by show 2 ≤ sizeLine; decide, [.int ((m + i : Nat) : Int) tk, u2], .cons ⟨_, rfl⟩ (.cons ru .nil), ⟨_, hT2, rfl, _, rfl⟩⟩
    have I1 : Inv X pins σ (upd H s.heap.objs.size (.tup [.int ((m + i : Nat) : Int), x])) { s with heap := h'', toks := tk + 1 } :=
      I.turnedNew (ch := [e, it]) (fun b ob hb q => (sb.2 b (fun z => hb (by simp [z]))).trans (hk b ob (fun z => hb (by simp [z])) (fun z => hb (by simp [z])) q)) hf (Nat.le_refl _) new
    refine ⟨.ref s.heap.objs.size, _, I1, rfl, ⟨_, x, rfl, I.hok.fresh (Nat.le_refl _), rfl, fun ys hy => by rw [I.list_inj hy hq]; exact hx⟩, ⟨⟨u2, ?_⟩, hit'.at fun o q => (sb.2 it (Ne.symm hne)).trans q, hne⟩, fun b hb => ?_⟩
    · have e1 : ((m + (i + 1) : Nat) : Int) = ((m + i : Nat) : Int) + 1 := by omega
      rw [e1]; exact he'
    · have hb' : b < s.heap.objs.size := by
        have e' : b = e ∨ b = it := by simpa using hb
        rcases e' with z | z
        · rw [z]; exact hel
        · rw [z]; exact hil
      rw [upd_ne (Nat.ne_of_lt hb')]
      exact (hf b hb).1
  done := by
    intro X hP hw hK hc i pins s σ H E I hf st hg
    subst hP hw hK
    obtain ⟨⟨old, he⟩, hit, hne⟩ := st
    obtain ⟨xs, hq, hx⟩ := hg
    obtain ⟨its, rv, p, hz⟩ := I.list hq
    obtain ⟨f0, f1, f2, f3, f4, f5⟩ := hf it (by simp)
    have hl := rv.length
    have hT : s.TypeIs (.ref e) "enumerate" := ⟨_, he, rfl⟩
    unfold pyNext
    refine wpAny_bind (wpAny_attempt (wpAny_callSpecial?_slot (name := Str.ofString "__next__") hT F.slot_enumerate_next
      (wpAny_call_entry F.slot_enumerate_next hT F.entry_enumerate_next ?_ (F.args_enumerate_next_1 _))))
    show wpAny _ _ (field (.ref e) 2 >>= _) _ _ _
    refine wpAny_bind (wpAny_field he rfl (x := .ref it) rfl ?_)
    refine wpAny_bind (wpAny_nextOf_list_end (I.ok.hd hc) hit p.isList (by simp; omega) fun h' x he' hx' => ?_)
    obtain ⟨o, ho, hcc⟩ := hx'
    refine wpAny_bind (wpAny_isInstance (T := "StopIteration") (b := true) ⟨o, ho, hcc⟩ isSubtype_stop ?_)
    exact wpAny_pure ⟨rfl, I.turned (t' := s.toks) (fun b o hb q => he' b o hb q) f0 f1 f3 f4 f5⟩
  self := fun A i s Q E st h => let ⟨⟨_, he⟩, _⟩ := st; wpAny_pyIter_enum he h
theorem callWith_type_kw {M : Model} {A : Around} {E : Value → Shared → Prop} {s : Shared} {env : Env} {pos : Pos} {id : String} {e : Expr} {rest : List Expr} {kws : List Keyword} {Q : Value → Shared → Prop}
    (h : wpAny M A (spliced (backTo pos (starEach (e :: rest) env))) (fun vs s₁ => wpAny M A (evalAll ((backToKw pos (keywordEach kws env)).map (·.2)))
      (fun kvs s₂ => wpAny M A (call (.type id) vs (((backToKw pos (keywordEach kws env)).filterMap (·.1)).zip kvs)) Q E s₂) E s₁) E s)
    (he : backTo pos (starEach (e :: rest) env) = (false, eval e env) :: backTo pos (starEach rest env) := by rfl)
    (hplain : (backTo pos (starEach (e :: rest) env)).any (·.1) = false := by rfl)
    (hall : (backToKw pos (keywordEach kws env)).all (·.1.isSome) = true := by rfl)
    (hkw : (backToKw pos (keywordEach kws env)).any (·.1.isNone) = false := by rfl) :
    wpAny M A (callWith pos (.type id) [] (backTo pos (starEach (e :: rest) env)) (backToKw pos (keywordEach kws env))) Q E s := by
  have key : wpAny M A (evalArgs (.type id) true (backTo pos (starEach (e :: rest) env)) (backToKw pos (keywordEach kws env))) (fun a s₁ => wpAny M A (call (.type id) ([] ++ a.pos) a.kw) Q E s₁) E s := by
    rw [he] at h ⊢
    exact evalArgs_kwB hall h
  unfold callWith
  refine wpAny_bind (wpAny_holding (wpAny_mono key (fun a s₁ h₁ => wpAny_bind (wpAny_standAt ?_)) fun _ _ x => x))
  simp only [hplain, hkw, Bool.or_false]
  refine wpAny_bind (wpAny_pure ?_)
  exact wpAny_bind (wpAny_mono h₁ (fun r s₂ hr => wpAny_bind (wpAny_holding (wpAny_point (wpAny_pure hr)))) fun _ _ x => x)
def iEnumS (K : PySem.W.Frag) (ta tk : TA) : TI := fun σ H R => ta σ H fun vs H1 => tk σ H1 fun zs H2 => ∃ a xs, ∃ m : Nat, vs = [.ref a] ∧ zs = [.int (m : Int)] ∧ m ≤ 1000 ∧ SqL K H2 a xs ∧ R (IteS K a m) H2
theorem pi_enumS {X : Cx} {e ke : Expr} {ta tk : TA} {p pos tpos kpos : Pos} {elts : List Expr} {kk : Nat} (hg : Gl X "enumerate") (hm : X.mg "enumerate" = none) (ha : PA X [e] ta) (hk : PK X [⟨some "start", ke, kpos⟩] tk)
    (he : backTo pos (starEach [e] X.env) = (false, eval e X.env) :: backTo pos (starEach [] X.env) := by rfl)
    (hall : (backToKw pos (keywordEach [⟨some "start", ke, kpos⟩] X.env)).all (·.1.isSome) = true := by rfl) (hks : (backToKw pos (keywordEach [⟨some "start", ke, kpos⟩] X.env)).filterMap (·.1) = [("start" : Str)] := by rfl) :
    PI X (.Tuple elts kk tpos) (.Call (.Name "enumerate" p) [e] [⟨some "start", ke, kpos⟩] pos) (iEnumS X.K ta tk) := by
  refine ⟨fun pins s σ H R I h => ?_⟩
  refine wpAny_Call_Name_kw (ld_blt I hg hm boot_enumerate (callWith_type_kw (thn (ha.run pos pins s σ H _ I h) fun us s1 ⟨vs, H1, I1, r1, q1⟩ => thn (hk.run pos pins s1 σ H1 _ I1 q1) fun ws s2 ⟨zs, H2, I2, r2, q2⟩ => ?_) he (by rw [he]; rfl) hall (by rfl)))
  obtain ⟨a, xs, m, ex, ez, hm1000, hq, q⟩ := q2
  subst ex
  subst ez
  rw [hks]
  cases r1 with
  | cons r rr =>
    cases rr
    cases r
    cases r2 with
    | cons rz rrz =>
      cases rrz
      obtain ⟨tz, rfl⟩ := rz
      obtain ⟨its, rv, p', hz⟩ := I2.list hq
      have hal : a < s2.heap.objs.size := by
        obtain ⟨o, ho, _⟩ := p'.isList
        exact Heap.lt_size ho
      refine enum_begins_start (k := (m : Int)) (t := tz) (begins_list a its.toArray) p'.isList (by rw [show (2:Int) ^ 63 = 9223372036854775808 by decide]; omega) (by rw [show (2:Int) ^ 63 = 9223372036854775808 by decide]; omega) fun h' he' hit hsz hkk => wpAny_pyIter_enum he' ?_
      have I3 : Inv X pins σ H2 { s2 with heap := h' } := I2.kept (t' := s2.toks) hkk
      have hit2 : h'.IsListIter s2.heap.objs.size a 0 := ⟨_, hit, rfl, rfl⟩
      refine ⟨s2.heap.objs.size + 1, [s2.heap.objs.size + 1, s2.heap.objs.size], _, _, H2, rfl, I3, turn_enumS m a (s2.heap.objs.size + 1) s2.heap.objs.size (Nat.ne_of_gt (Nat.lt_succ_of_lt hal)) (Nat.ne_of_lt hal), ⟨⟨.none, he'⟩, hit2, Nat.succ_ne_self _⟩, fun b hb => ?_, q⟩
      have e' : b = s2.heap.objs.size + 1 ∨ b = s2.heap.objs.size := by simpa using hb
      have hle : s2.heap.objs.size ≤ b := by
        rcases e' with z | z
        · rw [z]; exact Nat.le_add_right _ _
        · rw [z]; exact Nat.le_refl _
      exact I2.fpOk hle (I2.hok.fresh hle)
theorem for_enumS {K : PySem.W.Frag} {a : Addr} {xs : List V} {g : TG} {tb : TS} {D : Ends} {σ : L2.St} {H : Hp} {m0 : Nat} (Pv : Nat → L2.St → Hp → Prop) (h0 : Pv 0 σ H) (hq : ∀ i σ H, Pv i σ H → SqL K H a xs)
    (hs : ∀ (i : Nat) (x : V) (T : Addr) (σ : L2.St) (H : Hp), xs[i]? = some x → Pv i σ H → H T = none → g (.ref T) σ (upd H T (.tup [.int ((m0 + i : Nat) : Int), x])) fun σ2 H2 => tb { D with nx := Pv (i + 1), ct := Pv (i + 1), bk := D.nx } σ2 H2) (hd : ∀ σ H, Pv xs.length σ H → D.nx σ H) :
    ∃ W : Nat → Nat → L2.St → Hp → Prop, (∃ m, W 0 m σ H) ∧ ∀ i m σ H, W i m σ H →
      ((IteS K a m0).stop i H ∧ D.nx σ H) ∨ ((IteS K a m0).go i H ∧ ∃ N : L2.St → Hp → Prop, (∀ σ' H', N σ' H' → ∃ m', m' < m ∧ W (i + 1) m' σ' H') ∧ ∀ v H', (IteS K a m0).yld i H v H' → g v σ H' fun σ2 H2 => tb { D with nx := N, ct := N, bk := D.nx } σ2 H2) := by
  refine ⟨fun i m σ H => m = xs.length - i ∧ i ≤ xs.length ∧ Pv i σ H, ⟨xs.length, rfl, Nat.zero_le _, h0⟩, ?_⟩
  rintro i m σ H ⟨rfl, hi, p⟩
  have q := hq i σ H p
  by_cases hlt : i < xs.length
  · refine .inr ⟨⟨xs, xs[i], q, List.getElem?_eq_getElem hlt⟩, Pv (i + 1), fun σ' H' p' => ⟨xs.length - (i + 1), by omega, rfl, hlt, p'⟩, fun v H' hy => ?_⟩
    obtain ⟨T, x, rfl, nT, rfl, f⟩ := hy
    exact hs i x T σ H (f xs q) p nT
  · have e : i = xs.length := by omega
    subst e
    exact .inl ⟨⟨xs, q, Nat.le_refl _⟩, hd σ H p⟩
end OGX
set_option Elab.async false
set_option linter.all false
set_option maxRecDepth 100000
set_option maxHeartbeats 4000000
namespace L2
open PySem PySem.Spec PyProof.Rows
section
variable {prog : Program} {w : World} {A : Around} {E : Value → Shared → Prop} {s : Shared} {T : String} {r d : Addr} {n : Nat} {PP : Nat → Value → Prop} {OK : Heap → Prop}
theorem collect_kdl {Q : List Value → Shared → Prop} (K : PySem.W.KdlSrc prog w T r d n PP OK) (hh : A.handled = none) (hok : OK s.heap) (hlen : n ≤ sizeLine)
    (hQ : ∀ (h' : Heap) (tk : Nat) (acc : Array Value), (∀ b o, s.heap.get? b = some o → h'.get? b = some o) → ItemsOf PP acc n → Q acc.toList { s with heap := h', toks := tk }) :
    wpAny (model prog w) A (collect (.ref r)) Q E s := by
  unfold collect
  refine wpAny_bind (wpAny_runValue (codeAny_builtin F.entry_proto_collect ?_))
  rw [Around.under_plainId F.plain_proto_collect _]
  show wpAny _ A.in1 (newList [] >>= fun l => again (.builtin "list.__iadd__" ⟨[l, .ref r], []⟩)) _ _ s
  refine wpAny_bind (wpAny_newObj_type ?_)
  refine wpAny_pure ⟨plainId_quiet F.plain_list_iadd _, codeAny_builtin F.entry_list_iadd ?_⟩
  rw [Around.under_plainId F.plain_list_iadd _]
  show wpAny _ A.in1 (Builtin.List.listExtendWith (.ref s.heap.objs.size) (.ref r) (.ref s.heap.objs.size)) _ _ _
  have hS : (s.heap.push { cls := .type "list", data := .seq ([] : List Value).toArray }).get? s.heap.objs.size = some { cls := .type "list", data := .seq #[] 0 } := Heap.get?_push_size _ rfl
  have hlt := K.there _ hok
  refine wpAny_mono (PySem.W.kdl_extend (A := A) (R := fun rr s' => rr = .ok (.ret (.ref s.heap.objs.size)) ∧ ∃ (h' : Heap) (tk : Nat) (acc : Array Value) (c' : Nat), s' = { s with heap := h', toks := tk } ∧
      (∀ b o, s.heap.get? b = some o → h'.get? b = some o) ∧ h'.get? s.heap.objs.size = some { cls := .type "list", dict := none, data := .seq acc c', slots := #[] } ∧ ItemsOf PP acc n)
    (s := { s with heap := s.heap.push { cls := .type "list", data := .seq ([] : List Value).toArray } }) K hh (K.keep _ _ hok fun b _ o e => Heap.get?_push_of_some _ e) _ (Nat.ne_of_gt hlt.1) (Nat.ne_of_gt hlt.2) _ 0 hS
    (fun h' tk acc c' hk e hi => ⟨rfl, h', tk, acc, c', rfl, fun b o q => hk b o (Nat.ne_of_lt (Heap.lt_size q)) (Heap.get?_push_of_some _ q), e, hi⟩) hlen) (fun fin s' h => ?_) (fun e s' h => ?_)
  · cases fin with
    | done f =>
      obtain ⟨e, h', tk, acc, c', rfl, hk, hS', hi⟩ := h
      cases e
      show wpAny _ A (load s.heap.objs.size >>= _) _ _ _
      exact wpAny_bind (wpAny_load hS' (wpAny_pure (hQ h' tk acc hk hi)))
    | again c' =>
      refine ⟨h.1, codeAny_mono h.2 fun rr s'' hr' => ?_⟩
      obtain ⟨rfl, h', tk, acc, c', rfl, hk, hS', hi⟩ := hr'
      show wpAny _ A (load s.heap.objs.size >>= _) _ _ _
      exact wpAny_bind (wpAny_load hS' (wpAny_pure (hQ h' tk acc hk hi)))
  · exact absurd h.1 (by simp)
theorem code_tuple_new_kdl {Q₁ : Value → Shared → Prop} (K : PySem.W.KdlSrc prog w "dict" r d n PP OK) (hh : A.handled = none) (hok : OK s.heap) (hlen : n ≤ sizeLine)
    (h : ∀ (h' : Heap) (tk : Nat) (acc : Array Value), (∀ b o, s.heap.get? b = some o → h'.get? b = some o) → ItemsOf PP acc n →
      Q₁ (.ref h'.objs.size) { s with heap := h'.push { cls := .type "tuple", data := .seq acc }, toks := tk }) :
    codeAny (model prog w) A (.call (.builtin "tuple.__new__") ⟨[.type "tuple", .ref r], []⟩) (wants Q₁ E) s := by
  refine codeAny_of_tree ?_
  show wpAny _ A.in1 (do checkBuiltinCall "tuple.__new__" ⟨[.type "tuple", .ref r], []⟩; again (.builtin "tuple.__new__" ⟨[.type "tuple", .ref r], []⟩)) _ _ s
  refine wpAny_bind (wpAny_of_eq (F.newCall_tuple_1 _) (wpAny_pure ⟨plainId_quiet F.plain_tuple_new _, codeAny_builtin F.entry_tuple_new ?_⟩))
  rw [Around.under_plainId F.plain_tuple_new _]
  have hsub := sub_tuple_self
  have hinit := init_tuple_lookup
  have hmh := madeHere_tuple
  have hTI : s.TypeIs (.ref r) "dict" := K.type s hok
  have hh1 : A.in1.handled = none := hh
  wp_walk using wpAny_typeOf hTI, collect_kdl (A := A.in1) K hh1 hok hlen
  intro h' tk acc hk hacc
  show wpAny _ _ (Builtin.Tuple.tupleExact acc.toList.toArray >>= fun v => ret v) _ _ _
  unfold Builtin.Tuple.tupleExact
  refine wpAny_bind (wpAny_newObj_type ?_ (by show acc.toList.toArray.size ≤ sizeLine; simp only [Array.toArray_toList]; rw [hacc.1]; exact hlen))
  refine wpAny_pure ?_
  have e : acc.toList.toArray = acc := by simp
  rw [e]
  exact h h' tk acc hk hacc
theorem call_tuple_kdl {Q : Value → Shared → Prop} (K : PySem.W.KdlSrc prog w "dict" r d n PP OK) (hh : A.handled = none) (hok : OK s.heap) (hlen : n ≤ sizeLine)
    (hQ : ∀ (h' : Heap) (tk : Nat) (acc : Array Value), (∀ b o, s.heap.get? b = some o → h'.get? b = some o) → ItemsOf PP acc n →
      Q (.ref h'.objs.size) { s with heap := h'.push { cls := .type "tuple", data := .seq acc }, toks := tk }) :
    wpAny (model prog w) A (call (.type "tuple") [.ref r]) Q E s := by
  refine callType_codes (Q₁ := fun obj s₁ => s₁.TypeIs obj "tuple" ∧ Q obj s₁) F.called_tuple (F.typeCall_tuple_1 _) F.entry_object_init
    (code_tuple_new_kdl (A := A.in1) K hh hok hlen fun h' tk acc hk hacc => ⟨⟨_, Heap.get?_push_size _ rfl, rfl⟩, hQ h' tk acc hk hacc⟩) fun obj s₁ h₁ => ?_
  exact ⟨h₁.1, F.args_object_init_2 obj _, object_init_meets F.called_tuple.init.lookup F.called_tuple.made (by decide) prog w A.in1 _ s₁ ⟨h₁.1, rfl, h₁.2⟩⟩
end
def rTupleD : List V → Hp → VK → Prop := fun xs H Q => ∃ p kvs, xs = [.ref p] ∧ H p = some (.dK kvs) ∧ ∀ q, H q = none → Q (.ref q) (upd H q (.tup (kvs.map fun kv => kV kv.1)))
theorem call_tuple_dK {X : Cx} (hc : X.calm = true) : CallR X (.type "tuple") rTupleD := by
  intro pins s σ H xs us Q I r h
  obtain ⟨p, kvs, e, hk, q⟩ := h
  subst e
  obtain ⟨u, eu, rx⟩ := vals1 r
  subst eu
  obtain rfl : u = Value.ref p := rx
  obtain ⟨z, lo, vs, rk, hd⟩ := (show ObjOk X.prog X.w H s.heap p (.dK kvs) from I.hok p _ hk)
  obtain ⟨ep, hat⟩ := hd.dictAt
  have hl : kvs.length = vs.length := Paired.length rk
  refine call_tuple_kdl (PySem.W.kdl_dict (knd := mixKind X.prog X.w) (kvs := vs) (ep := ep) lo) (I.ok.hd hc) hat (by rw [← hl]; exact z) fun h' tk acc' hkeep hacc => ?_
  have I1 : Inv X pins σ H { s with heap := h', toks := tk } := I.kept (t' := tk) hkeep
  have hv : Vals (kvs.map fun kv => kV kv.1) acc'.toList := by
    have el : acc'.toList.length = acc'.size := by simp
    refine vals_of_at (by rw [List.length_map, el, hacc.1, hl]) fun j x w h1 h2 => ?_
    obtain ⟨k, y, hky, hi⟩ := hacc.2 j w (by rw [← Array.getElem?_toList]; exact h2)
    have e1 : (kvs.map (·.1))[j]? = some k := by
      rw [KV.keys rk, List.getElem?_map, hky] <;> rfl
    have e2 : (kvs.map fun kv => kV kv.1)[j]? = some (kV k) := by
      have e3 : (kvs.map fun kv => kV kv.1) = (kvs.map (·.1)).map kV := by rw [List.map_map] <;> rfl
      rw [e3, List.getElem?_map, e1] <;> rfl
    rw [e2] at h1
    cases h1
    exact keyIs_rel hi
  have I2 : Inv X pins σ (upd H h'.objs.size (.tup (kvs.map fun kv => kV kv.1))) { s with heap := h'.push { cls := .type "tuple", data := .seq acc' }, toks := tk } :=
    I1.laid (t' := tk) (fun b o e => Heap.get?_push_of_some _ e) (Nat.le_refl _) (show ObjOk X.prog X.w _ _ _ (.tup (kvs.map fun kv => kV kv.1)) from ⟨by rw [List.length_map]; exact z, acc'.toList, hv, by rw [Array.toArray_toList]; exact IsTup.new _ _⟩)
  exact ⟨.ref h'.objs.size, _, I2, rfl, q _ (I1.hok.fresh (Nat.le_refl _))⟩
/-- .. with the very object, which has no dict -/
def rTupleDF : List V → Hp → VK → Prop := fun xs H Q => ∃ p kvs, xs = [.ref p] ∧ H p = some (.dK kvs) ∧ ∀ q ob, H q = none → ob.dict = none → Q (.ref q) (upd H q (.frz ob (.tup (kvs.map fun kv => kV kv.1))))
theorem call_tuple_dKF {X : Cx} (hc : X.calm = true) : CallR X (.type "tuple") rTupleDF := by
  intro pins s σ H xs us Q I r h
  obtain ⟨p, kvs, e, hk, q⟩ := h
  subst e
  obtain ⟨u, eu, rx⟩ := vals1 r
  subst eu
  obtain rfl : u = Value.ref p := rx
  obtain ⟨z, lo, vs, rk, hd⟩ := (show ObjOk X.prog X.w H s.heap p (.dK kvs) from I.hok p _ hk)
  obtain ⟨ep, hat⟩ := hd.dictAt
  have hl : kvs.length = vs.length := Paired.length rk
  refine call_tuple_kdl (PySem.W.kdl_dict (knd := mixKind X.prog X.w) (kvs := vs) (ep := ep) lo) (I.ok.hd hc) hat (by rw [← hl]; exact z) fun h' tk acc' hkeep hacc => ?_
  have I1 : Inv X pins σ H { s with heap := h', toks := tk } := I.kept (t' := tk) hkeep
  have hv : Vals (kvs.map fun kv => kV kv.1) acc'.toList := by
    have el : acc'.toList.length = acc'.size := by simp
    refine vals_of_at (by rw [List.length_map, el, hacc.1, hl]) fun j x w h1 h2 => ?_
    obtain ⟨k, y, hky, hi⟩ := hacc.2 j w (by rw [← Array.getElem?_toList]; exact h2)
    have e1 : (kvs.map (·.1))[j]? = some k := by
      rw [KV.keys rk, List.getElem?_map, hky] <;> rfl
    have e2 : (kvs.map fun kv => kV kv.1)[j]? = some (kV k) := by
      have e3 : (kvs.map fun kv => kV kv.1) = (kvs.map (·.1)).map kV := by rw [List.map_map] <;> rfl
      rw [e3, List.getElem?_map, e1] <;> rfl
    rw [e2] at h1
    cases h1
    exact keyIs_rel hi
  have I2 : Inv X pins σ (upd H h'.objs.size (.frz { cls := .type "tuple", data := .seq acc' } (.tup (kvs.map fun kv => kV kv.1)))) { s with heap := h'.push { cls := .type "tuple", data := .seq acc' }, toks := tk } :=
    I1.laid (t' := tk) (fun b o e => Heap.get?_push_of_some _ e) (Nat.le_refl _) (show ObjOk X.prog X.w _ _ _ (.frz _ (.tup (kvs.map fun kv => kV kv.1))) from ⟨Heap.get?_push_size _ rfl, by rw [List.length_map]; exact z, acc'.toList, hv, by rw [Array.toArray_toList]; exact IsTup.new _ _⟩)
  exact ⟨.ref h'.objs.size, _, I2, rfl, q _ _ (I1.hok.fresh (Nat.le_refl _)) rfl⟩
end L2
set_option Elab.async false
set_option linter.all false
set_option maxRecDepth 100000
set_option maxHeartbeats 8000000
namespace OG
open PySem PySem.Spec PyProof.Rows L2
theorem num2 {l : List Nat} : (numQ 14 l = true ∧ (numV l = 0 ∨ numV l ∈ primesL)) ↔ (numQ 2 l = true ∧ (numV l = 0 ∨ numV l ∈ primesL)) := by
  constructor
  · rintro ⟨h, hv⟩
    refine ⟨numQ_iff.mpr ((numQ_iff.mp h).small (by decide) ?_), hv⟩
    have e : (10 : Nat) ^ 2 = 100 := by decide
    rw [e]
    rcases hv with q | q
    · rw [q]
      decide
    · have := prime_le q
      omega
  · rintro ⟨h, hv⟩
    have := numQ_iff.mp h
    exact ⟨numQ_iff.mpr (this.mono (Nat.le_trans this.fn (by decide))), hv⟩
theorem has_key : ∀ {kvs : List (Key × V)} {ms : List Str}, kvs.map (·.1) = ms.map Sum.inr → ∀ z : Str, (valV kvs (.inr z)).isSome = decide (z ∈ ms)
  | [], [], _, z => rfl
  | [], _ :: _, h, _ => by cases h
  | _ :: _, [], h, _ => by cases h
  | p :: r, m :: ms, h, z => by
    have h1 : p.1 = .inr m := (List.cons.inj h).1
    have h2 : r.map (·.1) = ms.map Sum.inr := (List.cons.inj h).2
    by_cases e : z = m
    · rw [valV_pos (by rw [h1, e]), decide_eq_true (by rw [e]; exact List.mem_cons_self)]
      rfl
    · rw [valV_neg (by rw [h1]; exact k_ne fun q => e q.symm), has_key h2 z]
      by_cases hz : z ∈ ms
      · rw [decide_eq_true hz, decide_eq_true (List.mem_cons_of_mem _ hz)]
      · rw [decide_eq_false hz, decide_eq_false fun q => (List.mem_cons.mp q).elim e hz]
theorem ne_nat (n k : Nat) : (!decide (V.int (n : Int) = V.int (k : Int))) = !decide (n = k) := by
  by_cases h : n = k
  · rw [h, decide_eq_true rfl, decide_eq_true rfl]
  · rw [decide_eq_false h, decide_eq_false (fun z : V.int (n : Int) = V.int (k : Int) => h (Int.ofNat.inj (V.int.inj z)))]
theorem eq_nat (n k : Nat) : decide (V.int (n : Int) = V.int (k : Int)) = decide (n = k) := by
  by_cases h : n = k
  · rw [h, decide_eq_true rfl, decide_eq_true rfl]
  · rw [decide_eq_false h, decide_eq_false (fun z : V.int (n : Int) = V.int (k : Int) => h (Int.ofNat.inj (V.int.inj z)))]
/-- a line of a mark -/
def MarkP (b : Int) (ms words : List Str) : Prop := ∃ w1 w2 : Str, words = [("mark" : Str), w1, w2] ∧ ms.length ≠ 4 ∧ isNmB 4 w1 = true ∧ w1 ∉ ms ∧ w2 ≠ "0" ∧ (numQ 14 (tl w2) && wokB b (numV (tl w2))) = true
/-- a line of a kind -/
def KindP (b : Int) (ks : List Str) (m : Nat) (words : List Str) : Prop := ∃ (w1 : Str) (rest : List Str), words = ("kind" : Str) :: w1 :: rest ∧ rest.length = m * m ∧ ks.length ≠ 3 ∧ isNmB 4 w1 = true ∧ w1 ∉ ks ∧ (rest.all fun z => numQ 14 (tl z) && wokB b (numV (tl z))) = true
section
variable {P : Program} {w : World} {K : PySem.W.Frag} {mg : Str → Option Value} {base : Heap}
def isIntV : V → Bool
  | .int _ => true
  | _ => false
def isByV : V → Bool
  | .int n => decide (n = 0) || decide (n ∈ primesL)
  | _ => false
def spIsInteger : Sp := fun vs H Q _ => ∃ v, vs = [v] ∧ (v = .non ∨ ∃ n : Int, v = .int n) ∧ Q (.bl (isIntV v)) H
theorem ok_is_integer (T : Txt K mg) : FnOk P w K mg base CX0 1 T.f_is_integer T.fd_is_integer ["value"] (spIsInteger) := by
  refine T.F_is_integer.ok sc_is_integer (fun vs H Q E h => ?_) (fun cdv A outer s H vs Q E hr h => ?_)
  · obtain ⟨v, rfl, _⟩ := h
    rfl
  · obtain ⟨v, rfl, hv, q⟩ := h
    refine ⟨_, (pss_one (ps_ret (pe_and (pe_callB call_isi (by rfl) T.n_isinstance (by decide +kernel) (pa_cons (pv 0) (pa_cons (pe_bltn (v := .ty "int") (by rfl) T.n_int (by decide +kernel) rfl) pa_nil))) (pe_one (pe_not (pe_callB call_isi (by rfl) T.n_isinstance (by decide +kernel) (pa_cons (pv 0) (pa_cons (pe_bltn (v := .ty "bool") (by rfl) T.n_bool (by decide +kernel) rfl) pa_nil)))))))), ?_⟩
    rcases hv with rfl | ⟨n, rfl⟩
    · refine ⟨.non, rfl, _, _, _, _, _, rfl, .ty _, .base .non, kit_ty (r := false) (by decide +kernel), _, rfl, iteF q⟩
    · refine ⟨.int n, rfl, _, _, _, _, _, rfl, .ty _, .base (.int n), kit_ty (r := true) (by decide +kernel), _, rfl, ?_⟩
      refine iteT ?_
      refine ⟨.int n, rfl, _, _, _, _, _, rfl, .ty _, .base (.int n), kit_ty (r := false) (by decide +kernel), _, rfl, q⟩
def spIsBy : Sp := fun vs H Q _ => ∃ v, vs = [v] ∧ (v = .non ∨ ∃ n : Int, v = .int n) ∧ Q (.bl (isByV v)) H
theorem ok_is_by (T : Txt K mg) : FnOk P w K mg base CX0 2 T.f_is_by T.fd_is_by ["value"] (spIsBy) := by
  refine T.F_is_by.ok sc_is_by (fun vs H Q E h => ?_) (fun cdv A outer s H vs Q E hr h => ?_)
  · obtain ⟨v, rfl, _⟩ := h
    rfl
  · obtain ⟨v, rfl, hv, q⟩ := h
    refine ⟨_, (pss_one (ps_ret (pe_and (pe_call (ok_is_integer T) (hr.mono (by decide)) (by rfl) T.g_is_integer T.F_is_integer.kp T.b_is_integer .nil pass0 (pa_cons (pv 0) pa_nil)) (pe_one (pe_or (pe_cmpR op_eq (pv 0) pe_int (nomark _)) (pe_one (pe_cmpR op_in_seq (pv 0) (C8.pe_gc (by rfl) T.m_PRIMES) rfl))))))), ?_⟩
    refine ⟨v, rfl, v, rfl, hv, _, rfl, ?_⟩
    rcases hv with rfl | ⟨n, rfl⟩
    · exact iteF q
    · refine iteT ?_
      refine ⟨.int n, rfl, rfl, _, rfl, ?_⟩
      show (if decide (V.int n = V.int 0) = true then _ else _)
      by_cases h0 : n = 0
      · rw [decide_eq_true (congrArg V.int h0)]
        have e : isByV (.int n) = true := by
          show (decide (n = 0) || decide (n ∈ primesL)) = _
          rw [decide_eq_true h0]
          rfl
        rw [e] at q
        exact q
      · rw [decide_eq_false (fun z => h0 (V.int.inj z))]
        have e : isByV (.int n) = decide (n ∈ primesL) := by
          show (decide (n = 0) || decide (n ∈ primesL)) = _
          rw [decide_eq_false h0, Bool.false_or]
        rw [e] at q
        refine ⟨.int n, rfl, _, _, rfl, .inr (T.sq_PRIMES _), rfl, flat_ints _, ?_⟩
        rw [inV_int]
        exact q
def spReadBy : Sp := fun vs H Q _ => ∃ (aw : Addr) (words : List Str), vs = [.ref aw] ∧ H aw = some (.lst (words.map V.str)) ∧ words ≠ [] ∧ (∀ z ∈ words, z.length ≤ 10000000) ∧
  ∀ H', Same H H' → Q (match byM words with | none => .non | some b => .int b) H'
theorem ok_read_by (T : Txt K mg) : FnOk P w K mg base CX0 3 T.f_read_by T.fd_read_by ["words"] (spReadBy) := by
  refine T.F_read_by.ok sc_read_by (fun vs H Q E h => ?_) (fun cdv A outer s H vs Q E hr h => ?_)
  · obtain ⟨aw, words, rfl, _⟩ := h
    rfl
  · obtain ⟨aw, words, rfl, hW, wne, wz, q⟩ := h
    refine ⟨_, (pss_cons (ps_if (PW.pt (pw_or (pt_cmpR op_ne (pe_callB call_len_seq (by rfl) T.n_len PySem.boot_len (pa_cons (pv 0) pa_nil)) pe_int (nomark _)) (pw_or1 (pt_cmpR op_ne (pe_ix ix_list (pv 0) pe_int (fun _ _ => rfl)) pe_str (nomark _))))) (pss_one (ps_ret pe_non)) pss_nil)
  (pss_cons (ps_set (i := 1) sc_read_by.nd rfl (Or.inl rfl) (pe_call (ok_integer_of T) (hr.mono (by decide)) (by rfl) T.g_integer_of T.F_integer_of.kp T.b_integer_of .nil pass0 (pa_cons (pe_ix ix_list (pv 0) pe_int (fun _ _ => rfl)) (pa_cons pe_int pa_nil))))
  (pss_one (ps_ret (pe_ifExp (pt_val (pe_call (ok_is_by T) (hr.mono (by decide)) (by rfl) T.g_is_by T.F_is_by.kp T.b_is_by .nil pass0 (pa_cons (pv 1) pa_nil))) (pv 1) pe_non))))), ?_⟩
    have no : byM words = none → Q .non H := fun e => by
      have := q H (Same.refl H)
      rw [e] at this
      exact this
    refine ⟨.ref aw, rfl, aw, _, rfl, .inl (SqL.of hW), rfl, _, rfl, ?_⟩
    rw [List.length_map]
    show (if (!decide (V.int (words.length : Int) = V.int ((2 : Nat) : Int))) = true then _ else _)
    rw [ne_nat]
    by_cases h : words.length = 2
    case neg =>
      rw [decide_eq_false h]
      refine no ?_
      unfold byM
      split
      · exact absurd rfl h
      · rfl
    case pos =>
      rw [decide_eq_true h]
      obtain ⟨w0, w1, rfl⟩ : ∃ w0 w1, words = [w0, w1] := by
        match words, h with
        | [a, b], _ => exact ⟨a, b, rfl⟩
      have em : byM [w0, w1] = if w0 = "book" ∧ numQ 14 (tl w1) = true ∧ (numV (tl w1) = 0 ∨ numV (tl w1) ∈ primesL) then some (numV (tl w1)) else none := rfl
      refine ⟨.ref aw, rfl, aw, _, ((0 : Nat) : Int), _, rfl, rfl, SqL.of hW, atI_nat rfl, rfl, _, rfl, ?_⟩
      show (if (!decide (V.str w0 = V.str "book")) = true then _ else _)
      rw [eq_word]
      by_cases hw : w0 = "book"
      · rw [decide_eq_true hw]
        refine ⟨.ref aw, rfl, aw, _, ((1 : Nat) : Int), .str w1, rfl, rfl, SqL.of hW, atI_nat rfl, w1, 2, rfl, wz w1 (by simp), by decide, fun H1 s1 => ?_⟩
        have q1 := fun H' (s' : Same H1 H') => q H' (s1.trans s')
        rw [em] at q1
        have e2 := num2 (l := tl w1)
        cases c : numQ 2 (tl w1) with
        | false =>
          rw [if_neg (fun z => by
            have := (e2.mp z.2).1
            rw [c] at this
            cases this)] at q1
          refine ⟨.non, rfl, .non, rfl, .inl rfl, ?_⟩
          exact ⟨_, rfl, iteF (q1 H1 (Same.refl _))⟩
        | true =>
          rw [c] at e2
          have e3 : (w0 = "book" ∧ numQ 14 (tl w1) = true ∧ (numV (tl w1) = 0 ∨ numV (tl w1) ∈ primesL)) ↔ (numV (tl w1) = 0 ∨ numV (tl w1) ∈ primesL) := ⟨fun z => z.2.2, fun z => ⟨hw, e2.mpr ⟨rfl, z⟩⟩⟩
          refine ⟨.int (numV (tl w1)), rfl, .int (numV (tl w1)), rfl, .inr ⟨_, rfl⟩, _, rfl, ?_⟩
          generalize numV (tl w1) = n at *
          have eb : isByV (.int n) = decide (n = 0 ∨ n ∈ primesL) := by
            show (decide (n = 0) || decide (n ∈ primesL)) = _
            exact (Bool.decide_or _ _).symm
          rw [eb]
          by_cases hc : n = 0 ∨ n ∈ primesL
          · rw [decide_eq_true hc]
            rw [if_pos (e3.mpr hc)] at q1
            exact iteT ⟨_, rfl, q1 H1 (Same.refl _)⟩
          · rw [decide_eq_false hc]
            rw [if_neg (fun z => hc (e3.mp z))] at q1
            exact iteF (q1 H1 (Same.refl _))
      · rw [decide_eq_false hw]
        refine no ?_
        rw [em, if_neg fun z => hw z.1]
def spMarkP : Sp := fun vs H Q _ => ∃ (aw d : Addr) (b : Int) (kvs : List (Key × V)) (ms words : List Str), vs = [.ref aw, .int b, .ref d] ∧ H aw = some (.lst (words.map V.str)) ∧ H d = some (.dK kvs) ∧ kvs.map (·.1) = ms.map Sum.inr ∧ words ≠ [] ∧ (∀ z ∈ words, z.length ≤ 10000000) ∧ 0 ≤ b ∧ b ≤ 97 ∧
  ∀ r : Bool, (r = true ↔ MarkP b ms words) → ∀ H', Same H H' → Q (.bl r) H'
theorem ok_is_mark (T : Txt K mg) : FnOk P w K mg base CX0 4 T.f_is_mark T.fd_is_mark ["words", "by", "weights"] (spMarkP) := by
  refine T.F_is_mark.ok sc_is_mark (fun vs H Q E h => ?_) (fun cdv A outer s H vs Q E hr h => ?_)
  · obtain ⟨aw, d, b, kvs, ms, words, rfl, _⟩ := h
    rfl
  · obtain ⟨aw, d, b, kvs, ms, words, rfl, hW, hd, hk, wne, wz, b0, b97, q⟩ := h
    refine ⟨_, (pss_cons (ps_if (PW.pt (pw_or (pt_cmpR op_ne (pe_callB call_len_seq (by rfl) T.n_len PySem.boot_len (pa_cons (pv 0) pa_nil)) pe_int (nomark _)) (pw_or (pt_cmpR op_ne (pe_ix ix_list (pv 0) pe_int (fun _ _ => rfl)) pe_str (nomark _)) (pw_or1 (pt_cmpR op_eq (pe_callB call_lenD (by rfl) T.n_len PySem.boot_len (pa_cons (pv 2) pa_nil)) (C8.pe_gc (by rfl) T.m_MOST_MARKS) (nomark _)))))) (pss_one (ps_ret pe_bl)) pss_nil)
  (pss_cons (ps_if (PW.pt (pw_or (pt_not (pt_val (pe_call (ok_is_letters T) (hr.mono (by decide)) (by rfl) T.g_is_letters T.F_is_letters.kp T.b_is_letters .nil pass0 (pa_cons (pe_ix ix_list (pv 0) pe_int (fun _ _ => rfl)) (pa_cons pe_int pa_nil))))) (pw_or1 (pt_cmp (pc_din (hu_of hr) (pe_ix ix_list (pv 0) pe_int (fun _ _ => rfl)) (pv 2)))))) (pss_one (ps_ret pe_bl)) pss_nil)
  (pss_one (ps_ret (pe_and (pe_cmpR op_ne (pe_ix ix_list (pv 0) pe_int (fun _ _ => rfl)) pe_str (nomark _)) (pe_one (pe_call (ok_is_number T) (hr.mono (by decide)) (by rfl) T.g_is_number T.F_is_number.kp T.b_is_number .nil pass0 (pa_cons (pe_ix ix_list (pv 0) pe_int (fun _ _ => rfl)) (pa_cons (pv 1) pa_nil))))))))), ?_⟩
    have no : ¬ MarkP b ms words → ∀ H', Same H H' → Q (.bl false) H' := fun n H' s' => q false ⟨fun z => Bool.noConfusion z, fun z => absurd z n⟩ H' s'
    have lk : kvs.length = ms.length := by
      have := congrArg List.length hk
      rwa [List.length_map, List.length_map] at this
    refine ⟨.ref aw, rfl, aw, _, rfl, .inl (SqL.of hW), rfl, _, rfl, ?_⟩
    rw [List.length_map]
    show (if (!decide (V.int (words.length : Int) = V.int ((3 : Nat) : Int))) = true then _ else _)
    rw [ne_nat]
    by_cases h : words.length = 3
    case neg =>
      rw [decide_eq_false h]
      exact no (fun ⟨_, _, e, _⟩ => h (by rw [e]; rfl)) _ (Same.refl _)
    case pos =>
      rw [decide_eq_true h]
      obtain ⟨w0, w1, w2, rfl⟩ : ∃ w0 w1 w2, words = [w0, w1, w2] := by
        match words, h with
        | [a, b, c], _ => exact ⟨a, b, c, rfl⟩
      refine ⟨.ref aw, rfl, aw, _, ((0 : Nat) : Int), _, rfl, rfl, SqL.of hW, atI_nat rfl, rfl, _, rfl, ?_⟩
      show (if (!decide (V.str w0 = V.str "mark")) = true then _ else _)
      rw [eq_word]
      by_cases hw : w0 = "mark"
      case neg =>
        rw [decide_eq_false hw]
        exact no (fun ⟨_, _, e, _⟩ => hw (List.cons.inj e).1) _ (Same.refl _)
      case pos =>
        rw [decide_eq_true hw]
        refine ⟨.ref d, rfl, d, kvs, rfl, hd, rfl, _, rfl, ?_⟩
        show (if decide (V.int (kvs.length : Int) = V.int ((4 : Nat) : Int)) = true then _ else _)
        rw [eq_nat, lk]
        by_cases h4 : ms.length = 4
        case pos =>
          rw [decide_eq_true h4]
          exact no (fun ⟨_, _, _, e, _⟩ => e h4) _ (Same.refl _)
        case neg =>
          rw [decide_eq_false h4]
          refine ⟨.ref aw, rfl, aw, _, ((1 : Nat) : Int), .str w1, rfl, rfl, SqL.of hW, atI_nat rfl, w1, 4, rfl, wz w1 (by simp), fun H1 s1 => ?_⟩
          refine ⟨_, rfl, ?_⟩
          show (if (!isNmB 4 w1) = true then _ else _)
          cases hn : isNmB 4 w1 with
          | false => exact no (fun ⟨a, c, e, _, e2, _⟩ => by
              have e := (List.cons.inj (List.cons.inj e).2).1
              rw [← e, hn] at e2
              cases e2) _ s1
          | true =>
            refine ⟨.ref aw, rfl, aw, _, ((1 : Nat) : Int), .str w1, rfl, rfl, SqL.of (s1 _ _ hW), atI_nat rfl, .ref d, rfl, d, _, rfl, .inl ⟨kvs, .inr w1, .inl (s1 _ _ hd), rfl, rfl⟩, _, rfl, ?_⟩
            rw [has_key hk]
            by_cases hm : w1 ∈ ms
            case pos =>
              rw [decide_eq_true hm]
              exact no (fun ⟨a, c, e, _, _, e2, _⟩ => by
                have e := (List.cons.inj (List.cons.inj e).2).1
                rw [← e] at e2
                exact e2 hm) _ s1
            case neg =>
              rw [decide_eq_false hm]
              refine ⟨.ref aw, rfl, aw, _, ((2 : Nat) : Int), .str w2, rfl, rfl, SqL.of (s1 _ _ hW), atI_nat rfl, rfl, _, rfl, ?_⟩
              show (if (!decide (V.str w2 = V.str "0")) = true then _ else _)
              rw [eq_word]
              by_cases h0 : w2 = "0"
              case pos =>
                rw [decide_eq_true h0]
                exact no (fun ⟨a, c, e, _, _, _, e2, _⟩ => by
                  have e := (List.cons.inj (List.cons.inj (List.cons.inj e).2).2).1
                  rw [← e] at e2
                  exact e2 h0) _ s1
              case neg =>
                rw [decide_eq_false h0]
                refine ⟨.ref aw, rfl, aw, _, ((2 : Nat) : Int), .str w2, rfl, rfl, SqL.of (s1 _ _ hW), atI_nat rfl, .int b, rfl, w2, b, rfl, wz w2 (by simp), b0, b97, fun H2 s2 => ?_⟩
                refine q _ ⟨fun z => ⟨w1, w2, by rw [hw], h4, hn, hm, h0, z⟩, fun ⟨a, c, e, _, _, _, _, z⟩ => ?_⟩ _ (s1.trans s2)
                have e := (List.cons.inj (List.cons.inj (List.cons.inj e).2).2).1
                rw [e]
                exact z
def spKindP (K : PySem.W.Frag) : Sp := fun vs H Q _ => ∃ (aw d : Addr) (b : Int) (m : Nat) (kvs : List (Key × V)) (ks words : List Str), vs = [.ref aw, .int b, .ref d, .int (m : Int)] ∧ H aw = some (.lst (words.map V.str)) ∧ H d = some (.dK kvs) ∧ kvs.map (·.1) = ks.map Sum.inr ∧ words ≠ [] ∧ words.length ≤ 1000000 ∧ (∀ z ∈ words, z.length ≤ 10000000) ∧ 0 ≤ b ∧ b ≤ 97 ∧ m ≤ 4 ∧
  ∀ r : Bool, (r = true ↔ KindP b ks m words) → ∀ H', Same H H' → Q (.bl r) H'
def fIsN (b : Int) : V → V
  | .str z => .bl (numQ 14 (tl z) && wokB b (numV (tl z)))
  | v => v
theorem ok_is_kind (T : Txt K mg) : FnOk P w K mg base CX0 4 T.f_is_kind T.fd_is_kind ["words", "by", "worths", "marks"] (spKindP K) := by
  refine T.F_is_kind.ok sc_is_kind (fun vs H Q E h => ?_) (fun cdv A outer s H vs Q E hr h => ?_)
  · obtain ⟨aw, d, b, m, kvs, ks, words, rfl, _⟩ := h
    rfl
  · obtain ⟨aw, d, b, m, kvs, ks, words, rfl, hW, hd, hk, wne, wl, wz, b0, b97, m4, q⟩ := h
    refine ⟨_, (pss_cons (ps_if (PW.pt (pw_or (pt_cmpR op_ne (pe_callB call_len_seq (by rfl) T.n_len PySem.boot_len (pa_cons (pv 0) pa_nil)) (pe_op op_add pe_int (pe_op op_mulW (pv 3) (pv 3))) (nomark _)) (pw_or (pt_cmpR op_ne (pe_ix ix_list (pv 0) pe_int (fun _ _ => rfl)) pe_str (nomark _)) (pw_or1 (pt_cmpR op_eq (pe_callB call_lenD (by rfl) T.n_len PySem.boot_len (pa_cons (pv 2) pa_nil)) (C8.pe_gc (by rfl) T.m_MOST_KINDS) (nomark _)))))) (pss_one (ps_ret pe_bl)) pss_nil)
  (pss_cons (ps_if (PW.pt (pw_or (pt_not (pt_val (pe_call (ok_is_letters T) (hr.mono (by decide)) (by rfl) T.g_is_letters T.F_is_letters.kp T.b_is_letters .nil pass0 (pa_cons (pe_ix ix_list (pv 0) pe_int (fun _ _ => rfl)) (pa_cons pe_int pa_nil))))) (pw_or1 (pt_cmp (pc_din (hu_of hr) (pe_ix ix_list (pv 0) pe_int (fun _ _ => rfl)) (pv 2)))))) (pss_one (ps_ret pe_bl)) pss_nil)
  (pss_one (ps_ret (pe_callB (cr_all rfl) (by rfl) T.n_all (by decide +kernel) (pa_cons (pe_lc (own := [("word", 4)]) (g := gName 4) (by rfl) sc_is_kind.nd (pi_list (pe_slice sl_list (pv 0) (po_some pe_int) po_none)) (blkOk_by (own := [("word", 4)]) (by rfl)) (fun _ _ _ _ _ => (pg_name (i := 4) sc_is_kind.nd rfl (Or.inl rfl))) (fun _ _ _ _ _ => pts_nil) (fun _ _ _ _ _ => (pe_call (ok_is_number T) (hr.mono (by decide)) (by rfl) T.g_is_number T.F_is_number.kp T.b_is_number .nil pass0 (pa_cons (pv 4) (pa_cons (pv 1) pa_nil))))) pa_nil)))))), ?_⟩
    have no : ¬ KindP b ks m words → ∀ H', Same H H' → Q (.bl false) H' := fun n H' s' => q false ⟨fun z => Bool.noConfusion z, fun z => absurd z n⟩ H' s'
    have lk : kvs.length = ks.length := by
      have := congrArg List.length hk
      rwa [List.length_map, List.length_map] at this
    refine ⟨.ref aw, rfl, aw, _, rfl, .inl (SqL.of hW), .int (m : Int), rfl, .int (m : Int), rfl, _, _, rfl, rfl, wide_mul (a := 10) (b := 10) (by omega) (by omega) (by decide) (by decide) (by decide), _, _, rfl, rfl, rfl, _, rfl, ?_⟩
    rw [List.length_map]
    have em : (2 : Int) + (m : Int) * (m : Int) = ((2 + m * m : Nat) : Int) := by
      rw [Int.natCast_add, Int.natCast_mul]
      rfl
    show (if (!decide (V.int (words.length : Int) = V.int (2 + (m : Int) * (m : Int)))) = true then _ else _)
    rw [em, ne_nat]
    by_cases h : words.length = 2 + m * m
    case neg =>
      rw [decide_eq_false h]
      exact no (fun ⟨_, _, e, e2, _⟩ => h (by rw [e, List.length_cons, List.length_cons, e2]; omega)) _ (Same.refl _)
    case pos =>
      rw [decide_eq_true h]
      obtain ⟨w0, w1, rest, rfl⟩ : ∃ w0 w1 rest, words = w0 :: w1 :: rest := by
        match words, h with
        | [], h => exact absurd rfl wne
        | [a], h =>
          rw [List.length_singleton] at h
          omega
        | a :: b :: r, _ => exact ⟨a, b, r, rfl⟩
      have hl : rest.length = m * m := by
        rw [List.length_cons, List.length_cons] at h
        omega
      refine ⟨.ref aw, rfl, aw, _, ((0 : Nat) : Int), _, rfl, rfl, SqL.of hW, atI_nat rfl, rfl, _, rfl, ?_⟩
      show (if (!decide (V.str w0 = V.str "kind")) = true then _ else _)
      rw [eq_word]
      by_cases hw : w0 = "kind"
      case neg =>
        rw [decide_eq_false hw]
        exact no (fun ⟨_, _, e, _⟩ => hw (List.cons.inj e).1) _ (Same.refl _)
      case pos =>
        rw [decide_eq_true hw]
        refine ⟨.ref d, rfl, d, kvs, rfl, hd, rfl, _, rfl, ?_⟩
        show (if decide (V.int (kvs.length : Int) = V.int ((3 : Nat) : Int)) = true then _ else _)
        rw [eq_nat, lk]
        by_cases h4 : ks.length = 3
        case pos =>
          rw [decide_eq_true h4]
          exact no (fun ⟨_, _, _, _, e, _⟩ => e h4) _ (Same.refl _)
        case neg =>
          rw [decide_eq_false h4]
          refine ⟨.ref aw, rfl, aw, _, ((1 : Nat) : Int), .str w1, rfl, rfl, SqL.of hW, atI_nat rfl, w1, 4, rfl, wz w1 (by simp), fun H1 s1 => ?_⟩
          refine ⟨_, rfl, ?_⟩
          show (if (!isNmB 4 w1) = true then _ else _)
          cases hn : isNmB 4 w1 with
          | false => exact no (fun ⟨a, c, e, _, _, e2, _⟩ => by
              have e := (List.cons.inj (List.cons.inj e).2).1
              rw [← e, hn] at e2
              cases e2) _ s1
          | true =>
            refine ⟨.ref aw, rfl, aw, _, ((1 : Nat) : Int), .str w1, rfl, rfl, SqL.of (s1 _ _ hW), atI_nat rfl, .ref d, rfl, d, _, rfl, .inl ⟨kvs, .inr w1, .inl (s1 _ _ hd), rfl, rfl⟩, _, rfl, ?_⟩
            rw [has_key hk]
            by_cases hm : w1 ∈ ks
            case pos =>
              rw [decide_eq_true hm]
              exact no (fun ⟨a, c, e, _, _, _, e2, _⟩ => by
                have e := (List.cons.inj (List.cons.inj e).2).1
                rw [← e] at e2
                exact e2 hm) _ s1
            case neg =>
              rw [decide_eq_false hm]
              have ec : cutV ((w0 :: w1 :: rest).map V.str) (some 2) none = rest.map V.str := by
                rw [show (2 : Int) = ((2 : Nat) : Int) from rfl, cut_from]
                rfl
              refine ⟨.ref aw, rfl, _, rfl, aw, _, rfl, SqL.of (s1 _ _ hW), fun sl hsl => ?_⟩
              have s2 := same_new (o := .lst (cutV ((w0 :: w1 :: rest).map V.str) (some 2) none)) hsl
              refine ⟨sl, rfl, ⟨_, SqL.of upd_same⟩, fun D hD => ?_⟩
              refine lc_same (K := K) (xs := rest.map V.str) (fIsN b) (by rw [List.length_map, hl]; exact Nat.le_trans (Nat.mul_le_mul m4 m4) (by decide)) (SqL.of (by rw [upd_same, ec])) hD (fun x H' Q' hx s' hq => ?_) (fun _ => rfl) (fun H6 s6 h6 => ?_)
              · obtain ⟨z, hz, rfl⟩ := List.mem_map.mp hx
                exact ⟨_, rfl, .int b, rfl, z, b, rfl, wz z (List.mem_cons_of_mem _ (List.mem_cons_of_mem _ hz)), b0, b97, fun H'' s'' => hq H'' s''⟩
              have e6 : (rest.map V.str).map (fIsN b) = (rest.map fun z => numQ 14 (tl z) && wokB b (numV (tl z))).map V.bl := by
                rw [List.map_map, List.map_map]
                rfl
              rw [e6] at h6
              refine ⟨D, _, rfl, SqL.of h6, ?_⟩
              rw [all_id]
              refine q _ ⟨fun z => ⟨w1, rest, by rw [hw], hl, h4, hn, hm, z⟩, fun ⟨a, c, e, _, _, _, _, z⟩ => ?_⟩ _ ((s1.trans s2).trans s6)
              have e := (List.cons.inj (List.cons.inj e).2).2
              rw [e]
              exact z
/-! what a line does, by the two -/
theorem step_mark {b : Int} {ms ks words : List Str} (mk : MkOk ms ks) (hk : ks = []) (h : MarkP b ms words) : ∃ w1 w2 : Str, words = [("mark" : Str), w1, w2] ∧ w1 ∉ ms ∧ numQ 14 (tl w2) = true ∧ stepM b ms ks words = some (ms ++ [w1], ks) := by
  obtain ⟨w1, w2, rfl, h4, hn, hm, h0, hz⟩ := h
  have m4 := mk.m4
  refine ⟨w1, w2, rfl, hm, (Bool.and_eq_true_iff.mp hz).1, ?_⟩
  rw [stepM_eq, if_pos (by unfold okLine; rw [hn, List.all_cons, hz]; rfl), if_pos ⟨rfl, hk, by omega, hm, rfl⟩, if_neg fun z => h0 (List.cons.inj z).1]
theorem step_kind {b : Int} {ms ks words : List Str} (mk : MkOk ms ks) (hm : ms ≠ []) (h : KindP b ks ms.length words) : ∃ (w1 : Str) (rest : List Str), words = ("kind" : Str) :: w1 :: rest ∧ w1 ∉ ks ∧ (rest.all fun z => numQ 14 (tl z) && wokB b (numV (tl z))) = true ∧ rest.length = ms.length * ms.length ∧ stepM b ms ks words = some (ms, ks ++ [w1]) := by
  obtain ⟨w1, rest, rfl, hl, h3, hn, hk, hz⟩ := h
  have k3 := mk.k3
  refine ⟨w1, rest, rfl, hk, hz, hl, ?_⟩
  rw [stepM_eq, if_pos (by unfold okLine; rw [hn, hz]; rfl), if_neg fun z => absurd z.1 (by decide +kernel), if_pos ⟨rfl, hl, hm, by omega, hk⟩]
theorem step_none {b : Int} {ms ks words : List Str} (h1 : ¬ (ks = [] ∧ MarkP b ms words)) (h2 : ¬ (ms ≠ [] ∧ KindP b ks ms.length words)) : stepM b ms ks words = none := by
  match words with
  | [] => rfl
  | [_] => rfl
  | w0 :: w1 :: rest =>
    rw [stepM_eq]
    by_cases ho : okLine b w1 rest = true
    · rw [if_pos ho]
      unfold okLine at ho
      obtain ⟨hn, hz⟩ := Bool.and_eq_true_iff.mp ho
      by_cases hm : w0 = "mark" ∧ ks = [] ∧ ms.length < 4 ∧ w1 ∉ ms ∧ rest.length = 1
      · rw [if_pos hm]
        obtain ⟨e0, ek, e4, em, el⟩ := hm
        obtain ⟨z, rfl⟩ : ∃ z, rest = [z] := by
          match rest, el with
          | [z], _ => exact ⟨z, rfl⟩
        by_cases h0 : z = "0"
        · rw [if_pos (by rw [h0])]
        · refine absurd ⟨ek, w1, z, by rw [e0], by omega, hn, em, h0, ?_⟩ h1
          rw [List.all_cons, Bool.and_eq_true] at hz
          exact hz.1
      · rw [if_neg hm]
        by_cases hk : w0 = "kind" ∧ rest.length = ms.length * ms.length ∧ ms ≠ [] ∧ ks.length < 3 ∧ w1 ∉ ks
        · obtain ⟨e0, el, em, e3, ek⟩ := hk
          exact absurd ⟨em, w1, rest, by rw [e0], el, by omega, hn, ek, hz⟩ h2
        · rw [if_neg hk]
    · rw [if_neg ho]
end
end OG
set_option Elab.async false
set_option linter.all false
set_option maxRecDepth 100000
set_option maxHeartbeats 8000000
namespace OG
open PySem PySem.Spec PyProof.Rows L2
/-- the classes -/
structure TxtX (K : PySem.W.Frag) (mg : Str → Option Value) (T : Txt K mg) : Prop where
  exB : OexC K T.c_BadBook
  inB : PySem.W.findIn K (.ref T.c_BadBook) "__init__" = some (some (.ref T.f_GateError_init))
  tyI : PySem.W.typeIn K (.ref T.f_GateError_init) = some (.type "function")
  noV : PySem.W.findIn K (.ref T.c_BadBook) "value" = some none
  xf : XfC K T.c_BadBook
  ec : ExcC K T.c_BadBook
  te : PySem.W.exmOne K (.ref T.c_BadBook) (.ref T.c_GateError) = some true
  kt : PySem.W.kitOne K (.ref T.c_BadBook) (.ref T.c_BadBook) = some true
  cl : Cls K T.c_Book
  mkB : Mk K T.c_Book T.f_Book_init
  na1 : NoAttr K T.c_Book "text"
  na2 : NoAttr K T.c_Book "by"
  na3 : NoAttr K T.c_Book "marks"
  na4 : NoAttr K T.c_Book "kinds"
  na5 : NoAttr K T.c_Book "_weight_by_mark"
  na6 : NoAttr K T.c_Book "_worths_by_kind"
  ca : PySem.W.findIn K (.ref T.c_Book) "__class__" = some (some (.builtin "object.__class__"))
  ob : PySem.W.mroIn K T.c_Book (.type "object") = some true
  kb : PySem.W.kitOne K (.ref T.c_Book) (.ref T.c_Book) = some true
def spGateInit (K : PySem.W.Frag) : Sp := fun vs H Q _ => ∃ (a C : Addr) (y : V), vs = [.ref a, y] ∧ OexC K C ∧ PySem.W.findIn K (.ref C) "value" = some none ∧ H a = some (exo a C none) ∧
  ∀ dx, H dx = none → dx ≠ a → Q .non (upd (upd H dx (exd dx [("value", y)])) a (exo a C (some dx)))
section
variable {P : Program} {w : World} {K : PySem.W.Frag} {mg : Str → Option Value} {base : Heap}
theorem ok_GateError_init (T : Txt K mg) : FnOk P w K mg base CX0 1 T.f_GateError_init T.fd_GateError_init ["self", "value"] (spGateInit K) := by
  refine T.F_GateError_init.ok sc_GateError_init (fun vs H Q E h => ?_) (fun cdv A outer s H vs Q E hr h => ?_)
  · obtain ⟨a, C, y, rfl, _⟩ := h
    rfl
  · obtain ⟨a, C, y, rfl, hC, hno, ha, q⟩ := h
    refine ⟨_, pss_one (ps_ost (pv 0) (pv 1)), ?_⟩
    exact ⟨y, rfl, .ref a, rfl, a, C, rfl, hC, hno, .inl ⟨ha, fun dx n ne => q dx n ne⟩⟩
theorem raised_same {H : Hp} {a dx : Addr} {u1 u2 u3 u4 : HO} (ha : H a = none) (hd : upd H a u1 dx = none) : Same H (upd (del (upd (upd (upd H a u1) dx u2) a u3) a) dx u4) := fun b o e => by
  have n1 : b ≠ a := ne_of_none e ha
  have e1 : upd H a u1 b = some o := by
    rw [upd_ne n1]
    exact e
  have n2 : b ≠ dx := ne_of_none e1 hd
  rw [upd_ne n2, del_ne n1, upd_ne n1, upd_ne n2]
  exact e1
theorem bad_made {T : Txt K mg} (XT : TxtX K mg T) {H : Hp} {y : V} {Qx : XK} (q : ∀ d H', Same H H' → H' d = some (.xd [("value", y)]) → Qx (.ref T.c_BadBook) (some d) H') :
    [y].length ≤ 1000 ∧ ∀ a, H a = none → spGateInit K (.ref a :: ([y] ++ [])) (upd H a (exo a T.c_BadBook none))
      (fun v H2 => v = .non ∧ ∃ (d : Addr) (fs : List (Str × V)), H2 a = some (exo a T.c_BadBook (some d)) ∧ H2 d = some (exd d fs) ∧ H d = none ∧ Qx (.ref T.c_BadBook) (some d) (upd (del H2 a) d (.xd fs))) (fun _ _ _ => False) := by
  refine ⟨by show 1 ≤ 1000; decide, fun a ha => ⟨a, T.c_BadBook, y, rfl, XT.exB, XT.noV, upd_same, fun dx hdx hne => ⟨rfl, dx, [("value", y)], upd_same, ?_, ?_, ?_⟩⟩⟩
  · rw [upd_ne hne, upd_same]
  · rw [upd_ne hne] at hdx
    exact hdx
  · exact q dx _ (raised_same ha hdx) upd_same
theorem ifs_else {c : TT} {t u : TS} {D : Ends} {σ : L2.St} {H : Hp} (R : Hp → Prop) (he : ∀ H', R H' → u D σ H') (h : (∀ H', R H' → u D σ H') → c σ H fun b H1 => if b = true then t D σ H1 else u D σ H1) : tIfS c t u D σ H := h he
def fIntS : V → V
  | .str z => .int (numV (tl z))
  | v => v
def spRead (T : Txt K mg) : Sp := fun vs H Q E => ∃ z : Str, vs = [.str z] ∧ z.length ≤ 900000 ∧
  (∀ n : Nat, wrongM z = some n → ∀ (d : Addr) (H' : Hp), Same H H' → H' d = some (.xd [("value", .int (n : Int))]) → E (.ref T.c_BadBook) (some d) H') ∧
  (wrongM z = none → ∀ (t a1 a2 : Addr) (b : Int) (kv1 kv2 : List (Key × V)) (H' : Hp), Same H H' → H' t = some (.tup [.int b, .ref a1, .ref a2]) → H' a1 = some (.dK kv1) → H' a2 = some (.dK kv2) → Q (.ref t) H')
theorem ok_read_book (T : Txt K mg) (XT : TxtX K mg T) : FnOk P w K mg base (L2.CX P w) 5 T.f_read_book T.fd_read_book ["text"] (spRead T) := by
  refine T.F_read_book.okX sc_read_book (fun vs H Q E h => ?_) (fun cdv A outer s H vs Q E hr h => ?_)
  · obtain ⟨z, rfl, _⟩ := h
    rfl
  · obtain ⟨z, rfl, hz, qe, qn⟩ := h
    refine ⟨_, (pss_cons (ps_set (i := 1) sc_read_book.nd rfl (Or.inl rfl) (pe_split (pv 0) pe_str))
  (pss_cons (ps_set (i := 2) sc_read_book.nd rfl (Or.inl rfl) (pe_call (ok_read_by T) (hr.mono (by decide)) (by rfl) T.g_read_by T.F_read_by.kp T.b_read_by .nil pass0 (pa_cons (pe_split (pe_ix ix_list (pv 1) pe_int (fun _ _ => rfl)) pe_str) pa_nil)))
  (pss_cons (ps_if (pt_cmpR op_isN (pv 2) pe_non (nomark _)) (pss_one (ps_raise rfl (takes_of rfl rfl rfl rfl) (pmk_oex XT.exB XT.inB XT.tyI (ok_GateError_init T) (hr.mono (by decide)) T.b_GateError_init .nil pass0 (by rfl) T.g_BadBook (pa_cons pe_int pa_nil)))) pss_nil)
  (pss_cons (ps_set (i := 3) sc_read_book.nd rfl (Or.inl rfl) pe_dnewK)
  (pss_cons (ps_set (i := 4) sc_read_book.nd rfl (Or.inl rfl) pe_dnewK)
  (pss_cons (ps_for (passes_of rfl) rfl (OGX.pi_enumS (by rfl) T.n_enumerate (pa_cons (pe_slice sl_list (pv 1) (po_some pe_int) po_none) pa_nil) (pk_cons pe_int pk_nil)) (pg_tup (by rfl) (pgs_cons (pg_name (i := 5) sc_read_book.nd rfl (Or.inl rfl)) (pgs_cons (pg_name (i := 6) sc_read_book.nd rfl (Or.inl rfl)) pgs_nil))) (pss_cons (ps_set (i := 7) sc_read_book.nd rfl (Or.inl rfl) (pe_split (pv 6) pe_str))
  (pss_one (ps_if (PW.pt (pw_and (pt_not (pt_truth (pv 4) (by intro _; rfl))) (pw_and1 (pt_val (pe_call (ok_is_mark T) (hr.mono (by decide)) (by rfl) T.g_is_mark T.F_is_mark.kp T.b_is_mark .nil pass0 (pa_cons (pv 7) (pa_cons (pv 2) (pa_cons (pv 3) pa_nil)))))))) (pss_one (ps_dput (hu_of hr) (pv 3) (pe_ix ix_list (pv 7) pe_int (fun _ _ => rfl)) (pe_callTy call_int_str (by rfl) T.n_int (by decide +kernel) (pa_cons (pe_ix ix_list (pv 7) pe_int (fun _ _ => rfl)) pa_nil)) rfl)) (pss_one (ps_if (PW.pt (pw_and (pt_truth (pv 3) (by intro _; rfl)) (pw_and1 (pt_val (pe_call (ok_is_kind T) (hr.mono (by decide)) (by rfl) T.g_is_kind T.F_is_kind.kp T.b_is_kind .nil pass0 (pa_cons (pv 7) (pa_cons (pv 2) (pa_cons (pv 4) (pa_cons (pe_callB call_lenD (by rfl) T.n_len PySem.boot_len (pa_cons (pv 3) pa_nil)) pa_nil))))))))) (pss_one (ps_dput (hu_of hr) (pv 4) (pe_ix ix_list (pv 7) pe_int (fun _ _ => rfl)) (pe_callTy call_tuple_of (by rfl) T.n_tuple (by decide +kernel) (pa_cons (pe_lc (own := [("word", 8)]) (g := gName 8) (by rfl) sc_read_book.nd (pi_list (pe_slice sl_list (pv 7) (po_some pe_int) po_none)) (blkOk_by (own := [("word", 8)]) (by rfl)) (fun _ _ _ _ _ => (pg_name (i := 8) sc_read_book.nd rfl (Or.inl rfl))) (fun _ _ _ _ _ => pts_nil) (fun _ _ _ _ _ => (pe_callTy call_int_str (by rfl) T.n_int (by decide +kernel) (pa_cons (pv 8) pa_nil)))) pa_nil)) rfl)) (pss_one (ps_raise rfl (takes_of rfl rfl rfl rfl) (pmk_oex XT.exB XT.inB XT.tyI (ok_GateError_init T) (hr.mono (by decide)) T.b_GateError_init .nil pass0 (by rfl) T.g_BadBook (pa_cons (pv 5) pa_nil))))))))))
  (pss_cons (ps_if (pt_not (pt_truth (pv 4) (by intro _; rfl))) (pss_one (ps_raise rfl (takes_of rfl rfl rfl rfl) (pmk_oex XT.exB XT.inB XT.tyI (ok_GateError_init T) (hr.mono (by decide)) T.b_GateError_init .nil pass0 (by rfl) T.g_BadBook (pa_cons (pe_op op_add (pe_callB call_len_seq (by rfl) T.n_len PySem.boot_len (pa_cons (pv 1) pa_nil)) pe_int) pa_nil)))) pss_nil)
  (pss_one (ps_ret (pe_tup (pa_cons (pv 2) (pa_cons (pv 3) (pa_cons (pv 4) pa_nil))))))))))))), ?_⟩
    obtain ⟨n1, l1, p1⟩ := split_facts z "\n" rfl (by decide +kernel)
    have em : wrongM z = match byM (Txt.split ((Txt.split z "\n").head?.getD "") " ") with
      | none => some 1
      | some b => match walkM b ((Txt.split z "\n").drop 1) 2 [] [] with
        | .inl i => some i
        | .inr mk => if mk.2 = [] then some ((Txt.split z "\n").length + 1) else none := rfl
    rw [em] at qe qn
    obtain ⟨ls, hls⟩ : ∃ ls, Txt.split z "\n" = ls := ⟨_, rfl⟩
    rw [hls] at qe qn n1 l1 p1
    refine ⟨.str z, rfl, ⟨_, rfl⟩, z, _, rfl, rfl, rfl, le_line (by omega), fun pl hpl => ?_⟩
    rw [hls]
    have s1 := same_new (o := .lst (ls.map V.str)) hpl
    have hpl1 : (upd H pl (.lst (ls.map V.str))) pl = some (.lst (ls.map V.str)) := upd_same
    generalize upd H pl (.lst (ls.map V.str)) = H1 at *
    obtain ⟨l0, lr, rfl⟩ : ∃ l0 lr, ls = l0 :: lr := by
      cases ls with
      | nil => exact absurd rfl n1
      | cons a b => exact ⟨a, b, rfl⟩
    have hl0 : l0.length ≤ 900000 := Nat.le_trans (p1 l0 List.mem_cons_self) hz
    refine ⟨.ref pl, rfl, pl, _, ((0 : Nat) : Int), _, rfl, rfl, SqL.of hpl1, atI_nat rfl, ⟨_, rfl⟩, l0, _, rfl, rfl, rfl, le_line (by omega), fun wl hwl => ?_⟩
    obtain ⟨m1, m2, m3⟩ := split_facts l0 " " rfl (by decide +kernel)
    have s2 := same_new (o := .lst ((Txt.split l0 " ").map V.str)) hwl
    refine ⟨wl, Txt.split l0 " ", rfl, upd_same, m1, fun y hy => Nat.le_trans (m3 y hy) (by omega), fun H2 s3 => ?_⟩
    have sA := (s1.trans s2).trans s3
    have hpl2 := s3 _ _ (s2 _ _ hpl1)
    have qe : ∀ n : Nat, (match byM (Txt.split l0 " ") with
      | none => some 1
      | some b => match walkM b lr 2 [] [] with
        | .inl i => some i
        | .inr mk => if mk.2 = [] then some (lr.length + 1 + 1) else none) = some n → ∀ (d : Addr) (H' : Hp), Same H H' → H' d = some (.xd [("value", .int (n : Int))]) → E (.ref T.c_BadBook) (some d) H' := qe
    have qn : (match byM (Txt.split l0 " ") with
      | none => some 1
      | some b => match walkM b lr 2 [] [] with
        | .inl i => some i
        | .inr mk => if mk.2 = [] then some (lr.length + 1 + 1) else none) = none → ∀ (t a1 a2 : Addr) (b : Int) (kv1 kv2 : List (Key × V)) (H' : Hp), Same H H' → H' t = some (.tup [.int b, .ref a1, .ref a2]) → H' a1 = some (.dK kv1) → H' a2 = some (.dK kv2) → Q (.ref t) H' := qn
    cases hb : byM (Txt.split l0 " ") with
    | none =>
      rw [hb] at qe
      refine ⟨_, rfl, rfl, _, rfl, ?_⟩
      refine bad_made XT fun d H' s' hd => ?_
      exact qe 1 rfl d H' (sA.trans s') hd
    | some b =>
      rw [hb] at qe qn
      obtain ⟨b0, b97⟩ := byM_ok hb
      refine ⟨.int b, rfl, rfl, _, rfl, ?_⟩
      refine iteF ?_
      dsimp only [tNext]
      refine fun a1 ha1 => ?_
      refine fun a2 ha2 => ?_
      have n12 : a1 ≠ a2 := fun e => by
        rw [← e, upd_same] at ha2
        cases ha2
      have t1 := same_new (o := .dK []) ha1
      have t2 := same_new (o := .dK []) ha2
      have h1 : (upd (upd H2 a1 (.dK [])) a2 (.dK [])) a1 = some (.dK []) := t2 _ _ upd_same
      have h2 : (upd (upd H2 a1 (.dK [])) a2 (.dK [])) a2 = some (.dK []) := upd_same
      have nH1 : ∀ x o, H x = some o → x ≠ a1 := fun x o e => ne_of_none (sA _ _ e) ha1
      have nH2 : ∀ x o, H x = some o → x ≠ a2 := fun x o e => ne_of_none (t1 _ _ (sA _ _ e)) ha2
      have hpl3 := t2 _ _ (t1 _ _ hpl2)
      have sB := (sA.trans t1).trans t2
      have npl1 : pl ≠ a1 := ne_of_none hpl2 ha1
      have npl2 : pl ≠ a2 := ne_of_none (t1 _ _ hpl2) ha2
      generalize upd (upd H2 a1 (.dK [])) a2 (.dK []) = H3 at *
      have ec : cutV ((l0 :: lr).map V.str) (some 1) none = lr.map V.str := by
        rw [show (1 : Int) = ((1 : Nat) : Int) from rfl, cut_from]
        rfl
      refine ⟨.ref pl, rfl, _, rfl, pl, _, rfl, SqL.of hpl3, fun sl hsl => ?_⟩
      have s4 := same_new (o := .lst (cutV ((l0 :: lr).map V.str) (some 1) none)) hsl
      refine ⟨sl, _, 2, rfl, rfl, by decide, SqL.of upd_same, ?_⟩
      rw [ec] at s4 ⊢
      have hsl4 : (upd H3 sl (.lst (lr.map V.str))) sl = some (.lst (lr.map V.str)) := upd_same
      have nsl1 : sl ≠ a1 := ne_of_none' h1 hsl
      have nsl2 : sl ≠ a2 := ne_of_none' h2 hsl
      have h1 := s4 _ _ h1
      have h2 := s4 _ _ h2
      have hpl4 := s4 _ _ hpl3
      have sC := sB.trans s4
      generalize upd H3 sl (.lst (lr.map V.str)) = H4 at *
      have kS : ∀ H9, K2 a1 a2 H4 H9 → Same H H9 := fun H9 k9 a o ho => k9 a o (nH1 a o ho) (nH2 a o ho) (sC _ _ ho)
      refine OGX.for_enumS (K := K) (a := sl) (xs := lr.map V.str) (m0 := 2) (fun i σ H' => ∃ (v5 v6 v7 : Option V) (ms ks : List Str) (kv1 kv2 : List (Key × V)), σ = [some (.str z), some (.ref pl), some (.int b), some (.ref a1), some (.ref a2), v5, v6, v7, none] ∧ K2 a1 a2 H4 H' ∧
          H' a1 = some (.dK kv1) ∧ H' a2 = some (.dK kv2) ∧ kv1.map (·.1) = ms.map Sum.inr ∧ kv2.map (·.1) = ks.map Sum.inr ∧ MkOk ms ks ∧ i ≤ lr.length ∧ walkM b lr 2 [] [] = walkM b (lr.drop i) (i + 2) ms ks)
        ⟨none, none, none, [], [], [], [], rfl, fun _ _ _ _ h => h, h1, h2, rfl, rfl, MkOk.nil, Nat.zero_le _, rfl⟩ (fun i σ H' ⟨_, _, _, _, _, _, _, _, k2, _⟩ => SqL.of (k2 _ _ nsl1 nsl2 hsl4)) ?_ ?_
      · rintro i x T0 σ H5 hx ⟨v5, v6, v7, ms, ks, kv1, kv2, rfl, k2, g1, g2, e1, e2, mk, hi, hw⟩ hT0
        obtain ⟨l, hl, rfl⟩ := str_at hx
        have hil : i < lr.length := (List.getElem?_eq_some_iff.mp hl).1
        have ll : l.length ≤ 900000 := Nat.le_trans (p1 l (List.mem_cons_of_mem _ (List.mem_of_getElem? hl))) hz
        have u1 := same_new (o := .tup [.int ((2 + i : Nat) : Int), .str l]) hT0
        refine ⟨T0, _, rfl, SqT.of upd_same, rfl, _, _, rfl, _, _, rfl, rfl, ?_⟩
        refine ⟨.str l, rfl, ⟨_, rfl⟩, l, _, rfl, rfl, rfl, le_line (by omega), fun aw haw => ?_⟩
        obtain ⟨c1, c2, c3⟩ := split_facts l " " rfl (by decide +kernel)
        have u2 := same_new (o := .lst ((Txt.split l " ").map V.str)) haw
        have hW : (upd (upd H5 T0 (.tup [.int ((2 + i : Nat) : Int), .str l])) aw (.lst ((Txt.split l " ").map V.str))) aw = some (.lst ((Txt.split l " ").map V.str)) := upd_same
        have k3 := (u1.trans u2)
        generalize upd (upd H5 T0 (.tup [.int ((2 + i : Nat) : Int), .str l])) aw (.lst ((Txt.split l " ").map V.str)) = H6 at *
        have g1 := k3 _ _ g1
        have g2 := k3 _ _ g2
        have k6 : K2 a1 a2 H4 H6 := fun x o n1 n2 ho => k3 _ _ (k2 x o n1 n2 ho)
        have wdrop : lr.drop i = l :: lr.drop (i + 1) := by
          rw [List.drop_eq_getElem_cons hil]
          have e := (List.getElem?_eq_some_iff.mp hl).2
          rw [e]
        rw [wdrop] at hw
        have hw : walkM b lr 2 [] [] = match stepM b ms ks (Txt.split l " ") with
          | none => Sum.inl (i + 2)
          | some mk => walkM b (lr.drop (i + 1)) (i + 2 + 1) mk.1 mk.2 := hw
        generalize Txt.split l " " = words at *
        have wz : ∀ y ∈ words, y.length ≤ 10000000 := fun y hy => Nat.le_trans (c3 y hy) (by omega)
        dsimp only [gName]
        have lk1 : kv1.length = ms.length := by
          have := congrArg List.length e1
          rwa [List.length_map, List.length_map] at this
        have lk2 : kv2.length = ks.length := by
          have := congrArg List.length e2
          rwa [List.length_map, List.length_map] at this
        refine ifs_else (fun H7 => Same H6 H7 ∧ ¬ (ks = [] ∧ MarkP b ms words)) ?_ (fun fin => ?_)
        · rintro H7 ⟨s7, nm⟩
          have g1 := s7 _ _ g1
          have g2 := s7 _ _ g2
          have hW := s7 _ _ hW
          have k7 : K2 a1 a2 H4 H7 := fun x o n1 n2 ho => s7 _ _ (k6 x o n1 n2 ho)
          refine ifs_else (fun H8 => Same H7 H8 ∧ ¬ (ms ≠ [] ∧ KindP b ks ms.length words)) ?_ (fun fin2 => ?_)
          · rintro H8 ⟨s8, nk⟩
            have k8 : K2 a1 a2 H4 H8 := fun x o n1 n2 ho => s8 _ _ (k7 x o n1 n2 ho)
            have en := step_none nm nk
            rw [en] at hw
            refine ⟨.int ((2 + i : Nat) : Int), rfl, ?_⟩
            refine bad_made XT fun d H' s' hd => ?_
            refine qe (i + 2) ?_ d H' ((kS _ k8).trans s') ?_
            · show (match walkM b lr 2 [] [] with
                | .inl i => some i
                | .inr mk => if mk.2 = [] then some (lr.length + 1 + 1) else none) = _
              rw [hw]
            · rw [show i + 2 = 2 + i by omega]
              exact hd
          · refine ⟨.ref a1, rfl, _, .inr (.inr ⟨kv1, g1, rfl⟩), ?_⟩
            by_cases hms : ms = []
            case pos =>
              have e0 : kv1 = [] := List.length_eq_zero_iff.mp (by rw [lk1, hms]; rfl)
              rw [e0]
              exact fin2 _ ⟨Same.refl _, fun z => z.1 hms⟩
            case neg =>
              have e0 : kv1.isEmpty = false := by
                cases kv1 with
                | nil => exact absurd (List.length_eq_zero_iff.mp (by rw [← lk1]; rfl)) hms
                | cons a b => rfl
              rw [e0]
              refine ⟨.ref aw, rfl, .int b, rfl, .ref a2, rfl, .ref a1, rfl, a1, kv1, rfl, g1, aw, a2, b, ms.length, kv2, ks, words, (by rw [lk1]; rfl), hW, g2, e2, c1, by omega, wz, b0, b97, mk.m4, fun r hrr H8 s8 => ?_⟩
              refine ⟨_, rfl, ?_⟩
              cases r with
              | false => exact fin2 _ ⟨s8, fun z => by
                  have := hrr.mpr z.2
                  cases this⟩
              | true =>
                obtain ⟨w1, rest, rfl, hwk, hz', hlr, est⟩ := step_kind mk hms (hrr.mp rfl)
                rw [est] at hw
                have hW := s8 _ _ hW
                have k8 : K2 a1 a2 H4 H8 := fun x o n1 n2 ho => s8 _ _ (k7 x o n1 n2 ho)
                have ec2 : cutV ((("kind" : Str) :: w1 :: rest).map V.str) (some 2) none = rest.map V.str := by
                  rw [show (2 : Int) = ((2 : Nat) : Int) from rfl, cut_from]
                  rfl
                refine ⟨.ref aw, rfl, _, rfl, aw, _, rfl, SqL.of hW, fun sl2 hsl2 => ?_⟩
                have v1 := same_new (o := .lst (cutV ((("kind" : Str) :: w1 :: rest).map V.str) (some 2) none)) hsl2
                refine ⟨sl2, rfl, ⟨_, SqL.of upd_same⟩, fun D hD => ?_⟩
                refine lc_same (K := K) (xs := rest.map V.str) fIntS (by rw [List.length_map, hlr]; exact Nat.le_trans (Nat.mul_le_mul mk.m4 mk.m4) (by decide)) (SqL.of (by rw [upd_same, ec2])) hD (fun x H' Q' hx s' hq => ?_) (fun _ => rfl) (fun H9 s9 h9 => ?_)
                · obtain ⟨y, hy, rfl⟩ := List.mem_map.mp hx
                  have hy2 := List.all_eq_true.mp hz' y hy
                  have nq := numQ_iff.mp (Bool.and_eq_true_iff.mp hy2).1
                  exact ⟨.str y, rfl, y, numV (tl y), rfl, intText_num nq (Nat.le_trans nq.len (by decide)), Nat.le_trans nq.len (by decide), hq H' (Same.refl _)⟩
                refine ⟨D, _, rfl, .inl ⟨SqL.of h9, fun t ht => ?_⟩⟩
                have v2 := same_new (o := .tup ((rest.map V.str).map fIntS)) ht
                have sF := ((s8.trans v1).trans s9).trans v2
                have sG := (v1.trans s9).trans v2
                refine ⟨.ref a2, rfl, .ref aw, rfl, aw, _, ((1 : Nat) : Int), .str w1, rfl, rfl, SqL.of (sG _ _ hW), atI_nat rfl, a2, _, rfl, .inl ⟨kv2, .inr w1, sF _ _ g2, rfl, Nat.lt_of_le_of_lt (show kv2.length ≤ 3 by rw [lk2]; exact mk.k3) (by decide), rfl⟩, ?_⟩
                have hkn : valV kv2 (.inr w1) = none := by
                  have := has_key e2 w1
                  rw [decide_eq_false hwk] at this
                  exact Option.isNone_iff_eq_none.mp (by rw [← Option.not_isSome, this]; rfl)
                refine ⟨_, _, _, ms, ks ++ [w1], kv1, putK kv2 (.inr w1) (.ref t), rfl, fun x o n1 n2 ho => ?_, ?_, upd_same, e1, ?_, mk.step est, by omega, hw⟩
                · rw [upd_ne n2]
                  exact sG _ _ (k8 x o n1 n2 ho)
                · rw [upd_ne n12]
                  exact sF _ _ g1
                · rw [putK_new _ hkn, List.map_append, e2, List.map_append]
                  rfl
        · refine ⟨.ref a2, rfl, _, .inr (.inr ⟨kv2, g2, rfl⟩), ?_⟩
          by_cases hks : ks = []
          case neg =>
            have e0 : kv2.isEmpty = false := by
              cases kv2 with
              | nil => exact absurd (List.length_eq_zero_iff.mp (by rw [← lk2]; rfl)) hks
              | cons a b => rfl
            rw [e0]
            exact fin _ ⟨Same.refl _, fun z => hks z.1⟩
          case pos =>
            have e0 : kv2 = [] := List.length_eq_zero_iff.mp (by rw [lk2, hks]; rfl)
            rw [e0]
            refine ⟨.ref aw, rfl, .int b, rfl, .ref a1, rfl, aw, a1, b, kv1, ms, words, rfl, hW, g1, e1, c1, wz, b0, b97, fun r hrr H8 s8 => ?_⟩
            refine ⟨_, rfl, ?_⟩
            cases r with
            | false => exact fin _ ⟨s8, fun z => by
                have := hrr.mpr z.2
                cases this⟩
            | true =>
              obtain ⟨w1, w2, rfl, hwk, hq2, est⟩ := step_mark mk hks (hrr.mp rfl)
              rw [est] at hw
              have hW := s8 _ _ hW
              have k8 : K2 a1 a2 H4 H8 := fun x o n1 n2 ho => s8 _ _ (k6 x o n1 n2 ho)
              have nq := numQ_iff.mp hq2
              refine ⟨.ref aw, rfl, aw, _, ((2 : Nat) : Int), .str w2, rfl, rfl, SqL.of hW, atI_nat rfl, w2, numV (tl w2), rfl, intText_num nq (Nat.le_trans nq.len (by decide)), Nat.le_trans nq.len (by decide), ?_⟩
              refine ⟨.ref a1, rfl, .ref aw, rfl, aw, _, ((1 : Nat) : Int), .str w1, rfl, rfl, SqL.of hW, atI_nat rfl, a1, _, rfl, .inl ⟨kv1, .inr w1, s8 _ _ g1, rfl, Nat.lt_of_le_of_lt (show kv1.length ≤ 4 by rw [lk1]; exact mk.m4) (by decide), rfl⟩, ?_⟩
              have hkn : valV kv1 (.inr w1) = none := by
                have := has_key e1 w1
                rw [decide_eq_false hwk] at this
                exact Option.isNone_iff_eq_none.mp (by rw [← Option.not_isSome, this]; rfl)
              refine ⟨_, _, _, ms ++ [w1], ks, putK kv1 (.inr w1) (.int (numV (tl w2))), kv2, rfl, fun x o n1 n2 ho => ?_, upd_same, ?_, ?_, e2, mk.step est, by omega, hw⟩
              · rw [upd_ne n1]
                exact k8 x o n1 n2 ho
              · rw [upd_ne n12.symm]
                exact s8 _ _ g2
              · rw [putK_new _ hkn, List.map_append, e1, List.map_append]
                rfl
      · rintro σ H5 ⟨v5, v6, v7, ms, ks, kv1, kv2, rfl, k2, g1, g2, e1, e2, mk, hi, hw⟩
        rw [List.length_map, List.drop_length] at hw
        have hw : walkM b lr 2 [] [] = .inr (ms, ks) := hw
        have sF := kS _ k2
        have lk2 : kv2.length = ks.length := by
          have := congrArg List.length e2
          rwa [List.length_map, List.length_map] at this
        refine ⟨.ref a2, rfl, _, .inr (.inr ⟨kv2, g2, rfl⟩), ?_⟩
        by_cases hks : ks = []
        case pos =>
          have e0 : kv2 = [] := List.length_eq_zero_iff.mp (by rw [lk2, hks]; rfl)
          rw [e0]
          refine ⟨.ref pl, rfl, pl, _, rfl, .inl (SqL.of (k2 _ _ npl1 npl2 hpl4)), _, _, rfl, rfl, ?_⟩
          refine bad_made XT fun d H' s' hd => ?_
          refine qe (lr.length + 1 + 1) ?_ d H' (sF.trans s') ?_
          · show (match walkM b lr 2 [] [] with
              | .inl i => some i
              | .inr mk => if mk.2 = [] then some (lr.length + 1 + 1) else none) = _
            rw [hw]
            exact if_pos hks
          · rw [List.length_map, List.length_cons] at hd
            exact hd
        case neg =>
          have e0 : kv2.isEmpty = false := by
            cases kv2 with
            | nil => exact absurd (List.length_eq_zero_iff.mp (by rw [← lk2]; rfl)) hks
            | cons a b => rfl
          rw [e0]
          refine ⟨.int b, rfl, .ref a1, rfl, .ref a2, rfl, Nat.le_trans (show 3 ≤ 1000 by decide) (by decide), fun t ht => ?_⟩
          have st := same_new (o := .tup [.int b, .ref a1, .ref a2]) ht
          refine qn ?_ t a1 a2 b kv1 kv2 _ (sF.trans st) upd_same (st _ _ g1) (st _ _ g2)
          show (match walkM b lr 2 [] [] with
            | .inl i => some i
            | .inr mk => if mk.2 = [] then some (lr.length + 1 + 1) else none) = _
          rw [hw]
          exact if_neg hks
end
end OG
set_option Elab.async false
set_option linter.all false
set_option maxRecDepth 100000
set_option maxHeartbeats 4000000
namespace OG
open PySem PySem.Spec PyProof.Rows L2
theorem head_num : ∀ (n : Nat), (TL.numL n).head? = some 48 → n = 0 := by
  intro n
  induction n using Nat.strongRecOn with
  | _ n ih =>
    intro h
    by_cases h10 : n < 10
    · rw [TL.numL_lt h10] at h
      have : 48 + n = 48 := Option.some.inj h
      omega
    · rw [TL.numL_step (by omega)] at h
      have hne := TL.numL_ne (n / 10)
      cases e : TL.numL (n / 10) with
      | nil => exact absurd e hne
      | cons c r =>
        rw [e] at h
        have h : (TL.numL (n / 10)).head? = some 48 := by
          rw [e]
          exact h
        have := ih (n / 10) (by omega) h
        omega
theorem tl_istr_nat (n : Nat) : tl (istr (n : Int)) = TL.numL n := TL.tl_num n
theorem tl_istr_neg {n : Int} (h : n < 0) : tl (istr n) = 45 :: tl (istr (0 - n)) := by
  unfold istr
  rw [toString_neg h]
  show (Str.ofString ("-" ++ toString (0 - n))).cps.toList = 45 :: (Str.ofString (toString (0 - n))).cps.toList
  rw [signs_ofString, signs_ofString, String.toList_append, List.map_append]
  rfl
theorem num_q {n : Nat} (h : n ≤ 1000000000000) : NumQ 14 (TL.numL n) ∧ numV (TL.numL n) = (n : Int) := by
  have ha := TL.numL_digits n
  have hv := TL.numL_val n
  have hl := TL.numL_len (n := n) (k := 13) (by decide) (by omega)
  have hh := head_num n
  have hne := TL.numL_ne n
  cases e : TL.numL n with
  | nil => exact absurd e hne
  | cons c r =>
    rw [e] at ha hv hl hh
    have hc := ha.head
    have hc45 : c ≠ 45 := by omega
    refine ⟨⟨?_, ?_, ?_, ?_⟩, ?_⟩
    · rw [figs_pos hc45]
      exact Nat.succ_le_succ (Nat.zero_le _)
    · rw [figs_pos hc45]
      omega
    · rw [figs_pos hc45]
      exact ha
    · rw [figs_pos hc45]
      intro z
      have n0 := hh z
      rw [n0] at e
      rw [← e]
      rfl
    · rw [numV_pos hc45, hv]
/-- what a written number is read back as -/
theorem istr_q {i : Int} (h1 : -1000000000000 ≤ i) (h2 : i ≤ 1000000000000) : numQ 14 (tl (istr i)) = true ∧ numV (tl (istr i)) = i := by
  by_cases h : i < 0
  · obtain ⟨n, hn⟩ : ∃ n : Nat, 0 - i = (n : Int) := ⟨(0 - i).toNat, by omega⟩
    have q := num_q (n := n) (by omega)
    rw [tl_istr_neg h, hn, tl_istr_nat]
    have n0 : n ≠ 0 := by omega
    have hd : (TL.numL n).head? ≠ some 48 := fun z => n0 (head_num n z)
    refine ⟨numQ_iff.mpr ⟨?_, ?_, ?_, ?_⟩, ?_⟩
    · rw [figs_neg]
      exact List.length_pos_iff.mpr (TL.numL_ne n)
    · rw [figs_neg]
      exact Nat.le_trans (TL.numL_len (k := 13) (by decide) (by omega)) (by decide)
    · rw [figs_neg]
      exact TL.numL_digits n
    · rw [figs_neg]
      exact fun z => absurd z hd
    · rw [numV_neg, TL.numL_val]
      omega
  · obtain ⟨n, rfl⟩ := Int.eq_ofNat_of_zero_le (show 0 ≤ i by omega)
    have q := num_q (n := n) (by omega)
    rw [show ((n : Nat) : Int) = (n : Int) from rfl, tl_istr_nat]
    exact ⟨numQ_iff.mpr q.1, q.2⟩
/-! texts put together, read back -/
theorem istr_free {i : Int} {c : Nat} (hc : c < 45) : c ∉ tl (istr i) := by
  by_cases h : i < 0
  · obtain ⟨n, hn⟩ : ∃ n : Nat, 0 - i = (n : Int) := ⟨(0 - i).toNat, by omega⟩
    rw [tl_istr_neg h, hn, tl_istr_nat]
    intro m
    rcases List.mem_cons.mp m with e | e
    · omega
    · exact TL.numL_free (.inl (by omega)) e
  · obtain ⟨n, rfl⟩ := Int.eq_ofNat_of_zero_le (show 0 ≤ i by omega)
    rw [show ((n : Nat) : Int) = (n : Int) from rfl, tl_istr_nat]
    exact TL.numL_free (.inl (by omega))
theorem nm_free {z : Str} {c : Nat} (h : IsNm z) (hc : c < 97) : c ∉ tl z := fun m => by
  have := h.2.2 c m
  unfold abc at this
  simp only [List.mem_cons, List.mem_nil_iff, or_false] at this
  omega
theorem split_nl {ls : List Str} (hne : ls ≠ []) (h : ∀ l ∈ ls, 10 ∉ tl l) : Txt.split (Txt.join "\n" ls) "\n" = ls := TL.split_join (s := 10) (S := []) (by decide +kernel) (by decide +kernel) hne h
theorem split_sp {ls : List Str} (hne : ls ≠ []) (h : ∀ l ∈ ls, 32 ∉ tl l) : Txt.split (Txt.join " " ls) " " = ls := TL.split_join (s := 32) (S := []) (by decide +kernel) (by decide +kernel) hne h
end OG
set_option Elab.async false
set_option linter.all false
set_option maxRecDepth 100000
set_option maxHeartbeats 4000000
namespace OG
open PySem PySem.Spec PyProof.Rows L2
theorem joinL_cons (S a : List Nat) : ∀ {r : List (List Nat)}, r ≠ [] → TL.joinL S (a :: r) = a ++ (S ++ TL.joinL S r)
  | [], h => absurd rfl h
  | _ :: _, _ => rfl
theorem joinL_app (S : List Nat) : ∀ {xs ys : List (List Nat)}, xs ≠ [] → ys ≠ [] → TL.joinL S (xs ++ ys) = TL.joinL S xs ++ (S ++ TL.joinL S ys)
  | [], _, h, _ => absurd rfl h
  | [x], ys, _, h => joinL_cons S x h
  | x :: y :: r, ys, _, h => by
    have ih := joinL_app S (xs := y :: r) (ys := ys) (by simp) h
    show TL.joinL S (x :: ((y :: r) ++ ys)) = _
    rw [joinL_cons S x (by simp), ih, joinL_cons S x (r := y :: r) (by simp)]
    simp only [List.append_assoc]
theorem joinL_flat (S : List Nat) : ∀ {rows : List (List (List Nat))}, rows ≠ [] → (∀ r ∈ rows, r ≠ []) → TL.joinL S (rows.map (TL.joinL S)) = TL.joinL S rows.flatten ∧ rows.flatten ≠ []
  | [], h, _ => absurd rfl h
  | [r], _, h => by
    have hr := h r List.mem_cons_self
    rw [List.map_cons, List.map_nil, List.flatten_cons, List.flatten_nil, List.append_nil]
    exact ⟨rfl, hr⟩
  | r :: s :: t, _, h => by
    have hr := h r List.mem_cons_self
    obtain ⟨ih, ne⟩ := joinL_flat S (rows := s :: t) (by simp) fun x hx => h x (List.mem_cons_of_mem _ hx)
    have e : (r :: s :: t).flatten = r ++ (s :: t).flatten := rfl
    rw [List.map_cons, joinL_cons S _ (by simp), ih, e, joinL_app S hr ne]
    exact ⟨rfl, by simp [hr]⟩
theorem tl_jn (y : Str) (ls : List Str) : TL.tl (Txt.join y ls) = TL.joinL (TL.tl y) (ls.map TL.tl) := by rw [TL.join_eq, TL.tl_join]
theorem str_ext {a b : Str} (h : TL.tl a = TL.tl b) : a = b := TL.ext_tl h
/-- the words of a mark's line -/
theorem mark_words (z : Str) (w : Int) : markL z w = Txt.join " " [("mark" : Str), z, istr w] := by
  refine str_ext ?_
  rw [tl_jn]
  unfold markL
  rw [TL.tl_append, TL.tl_append, TL.tl_append]
  show TL.tl "mark " ++ TL.tl z ++ TL.tl " " ++ TL.tl (istr w) = TL.tl "mark" ++ (TL.tl " " ++ (TL.tl z ++ (TL.tl " " ++ TL.tl (istr w))))
  have e : TL.tl ("mark " : Str) = TL.tl ("mark" : Str) ++ TL.tl (" " : Str) := by decide +kernel
  rw [e]
  simp only [List.append_assoc]
theorem kind_words (k : Str) {M : List (List Int)} (hM : M ≠ []) (hr : ∀ row ∈ M, row ≠ []) : kindL k M = Txt.join " " (("kind" : Str) :: k :: M.flatten.map istr) := by
  have key := joinL_flat (TL.tl (" " : Str)) (rows := M.map fun row => row.map fun i => TL.tl (istr i)) (by simpa using hM) (fun r h => by
    obtain ⟨row, h1, rfl⟩ := List.mem_map.mp h
    simpa using hr row h1)
  refine str_ext ?_
  rw [tl_jn]
  unfold kindL
  rw [TL.tl_append, TL.tl_append, TL.tl_append, tl_jn]
  have e1 : ((M.map rowL).map TL.tl) = (M.map fun row => row.map fun i => TL.tl (istr i)).map (TL.joinL (TL.tl " ")) := by
    rw [List.map_map, List.map_map]
    refine List.map_congr_left fun row _ => ?_
    show TL.tl (rowL row) = TL.joinL (TL.tl " ") (row.map fun i => TL.tl (istr i))
    unfold rowL
    rw [tl_jn, List.map_map]
    rfl
  have e2 : (M.map fun row => row.map fun i => TL.tl (istr i)).flatten = (M.flatten.map istr).map TL.tl := by
    rw [List.map_map, List.map_flatten]
    rfl
  rw [e1, key.1, e2]
  have ne : ((M.flatten.map istr).map TL.tl) ≠ [] := by
    rw [← e2]
    exact key.2
  rw [List.map_cons, List.map_cons, joinL_cons _ _ (by simp), joinL_cons _ _ ne]
  have e : TL.tl ("kind " : Str) = TL.tl ("kind" : Str) ++ TL.tl (" " : Str) := by decide +kernel
  rw [e]
  simp only [List.append_assoc]
theorem book_words (b : Int) : ("book " ++ istr b : Str) = Txt.join " " [("book" : Str), istr b] := by
  refine str_ext ?_
  rw [tl_jn, TL.tl_append]
  show TL.tl "book " ++ TL.tl (istr b) = TL.tl "book" ++ (TL.tl " " ++ TL.tl (istr b))
  have e : TL.tl ("book " : Str) = TL.tl ("book" : Str) ++ TL.tl (" " : Str) := by decide +kernel
  rw [e]
  simp only [List.append_assoc]
theorem split_mark {z : Str} (hz : IsNm z) (w : Int) : Txt.split (markL z w) " " = [("mark" : Str), z, istr w] := by
  rw [mark_words]
  refine split_sp (by simp) fun l hl => ?_
  simp only [List.mem_cons, List.mem_nil_iff, or_false] at hl
  rcases hl with rfl | rfl | rfl
  · decide +kernel
  · exact nm_free hz (by decide)
  · exact istr_free (by decide)
theorem split_kind {k : Str} (hk : IsNm k) {M : List (List Int)} (hM : M ≠ []) (hr : ∀ row ∈ M, row ≠ []) : Txt.split (kindL k M) " " = ("kind" : Str) :: k :: M.flatten.map istr := by
  rw [kind_words k hM hr]
  refine split_sp (by simp) fun l hl => ?_
  rcases List.mem_cons.mp hl with rfl | hl
  · decide +kernel
  · rcases List.mem_cons.mp hl with rfl | hl
    · exact nm_free hk (by decide)
    · obtain ⟨i, _, rfl⟩ := List.mem_map.mp hl
      exact istr_free (by decide)
theorem split_book (b : Int) : Txt.split ("book " ++ istr b) " " = [("book" : Str), istr b] := by
  rw [book_words]
  refine split_sp (by simp) fun l hl => ?_
  simp only [List.mem_cons, List.mem_nil_iff, or_false] at hl
  rcases hl with rfl | rfl
  · decide +kernel
  · exact istr_free (by decide)
theorem by_own {b : Int} (hb : b = 0 ∨ b ∈ primesL) : byM (Txt.split ("book " ++ istr b) " ") = some b := by
  have b1 : -1000000000000 ≤ b ∧ b ≤ 1000000000000 := by
    rcases hb with e | e
    · rw [e]
      decide
    · have := prime_le e
      omega
  obtain ⟨q1, q2⟩ := istr_q b1.1 b1.2
  rw [split_book]
  show (if ("book" : Str) = "book" ∧ numQ 14 (tl (istr b)) = true ∧ (numV (tl (istr b)) = 0 ∨ numV (tl (istr b)) ∈ primesL) then some (numV (tl (istr b))) else none) = _
  rw [q2, if_pos ⟨rfl, q1, hb⟩]
end OG
set_option Elab.async false
set_option linter.all false
set_option maxRecDepth 100000
set_option maxHeartbeats 4000000
namespace OG
open PySem PySem.Spec PyProof.Rows L2
theorem nmB_of {z : Str} (h : IsNm z) : isNmB 4 z = true := by
  unfold isNmB isOf
  rw [decide_eq_true h.2.1, decide_eq_true (show 0 < z.length from h.1), Bool.true_and, Bool.true_and, List.all_eq_true]
  intro c hc
  refine decide_eq_true ?_
  rw [show tl ("abcdefghijklmnopqrstuvwxyz" : Str) = abc from abc_tl]
  exact h.2.2 c hc
theorem wok_of {b w : Int} (h1 : -1000000000000 ≤ w) (h2 : w ≤ 1000000000000) (hb : 0 ≤ b) (h3 : 0 < b → 0 ≤ w ∧ w < b) : wokB b w = true := by
  unfold wokB
  by_cases e : b = 0
  · rw [if_pos e, decide_eq_true h1, decide_eq_true h2]
    rfl
  · obtain ⟨x, y⟩ := h3 (by omega)
    rw [if_neg e, decide_eq_true x, decide_eq_true y]
    rfl
theorem word_of {b w : Int} (h1 : -1000000000000 ≤ w) (h2 : w ≤ 1000000000000) (hb : 0 ≤ b) (h3 : 0 < b → 0 ≤ w ∧ w < b) : (numQ 14 (tl (istr w)) && wokB b (numV (tl (istr w)))) = true := by
  obtain ⟨q1, q2⟩ := istr_q h1 h2
  rw [q2, q1, wok_of h1 h2 hb h3]
  rfl
/-- one line more, with what it tells -/
def stepD (b : Int) (mw : List (Str × Int)) (kw : List (Str × List Int)) (words : List Str) : Option (List (Str × Int) × List (Str × List Int)) :=
  match stepM b (mw.map (·.1)) (kw.map (·.1)) words with
  | none => none
  | some _ => match words with
    | w0 :: w1 :: rest => if w0 = "mark" then some (mw ++ [(w1, numV (tl (rest.head?.getD "")))], kw) else some (mw, kw ++ [(w1, rest.map fun z => numV (tl z))])
    | _ => none
def walkD (b : Int) : List Str → List (Str × Int) → List (Str × List Int) → Option (List (Str × Int) × List (Str × List Int))
  | [], mw, kw => some (mw, kw)
  | l :: r, mw, kw => match stepD b mw kw (Txt.split l " ") with
    | none => none
    | some mk => walkD b r mk.1 mk.2
theorem walkD_cons (b : Int) (l : Str) (r : List Str) (mw : List (Str × Int)) (kw : List (Str × List Int)) : walkD b (l :: r) mw kw = match stepD b mw kw (Txt.split l " ") with
    | none => none
    | some mk => walkD b r mk.1 mk.2 := rfl
theorem walk_marks {b : Int} (hb : 0 ≤ b) : ∀ (ms2 : List Str) (ws2 : List Int) (mw : List (Str × Int)) (rest : List Str), ms2.length = ws2.length → mw.length + ms2.length ≤ 4 → (mw.map (·.1) ++ ms2).Nodup → (∀ z ∈ ms2, IsNm z) → (∀ w ∈ ws2, WOk b w) →
    walkD b (List.zipWith markL ms2 ws2 ++ rest) mw [] = walkD b rest (mw ++ ms2.zip ws2) []
  | [], [], mw, rest, _, _, _, _, _ => by
    rw [List.zip_nil_left, List.append_nil]
    rfl
  | [], _ :: _, _, _, h, _, _, _, _ => by cases h
  | _ :: _, [], _, _, h, _, _, _, _ => by cases h
  | z :: r, w :: v, mw, rest, hl, h4, nd, hn, hw => by
    have hz := hn z List.mem_cons_self
    obtain ⟨w0, w1, w2, w3⟩ := hw w List.mem_cons_self
    have hq := word_of (b := b) w1 w2 hb (fun p => ⟨by have := (w3 p).1; omega, (w3 p).2⟩)
    obtain ⟨q1, q2⟩ := istr_q w1 w2
    have nz : z ∉ mw.map (·.1) := fun m => by
      have := (List.nodup_append.mp nd).2.2 z m z List.mem_cons_self
      exact this rfl
    have st : stepM b (mw.map (·.1)) [] [("mark" : Str), z, istr w] = some (mw.map (·.1) ++ [z], []) := by
      rw [stepM_eq, if_pos (by unfold okLine; rw [nmB_of hz, List.all_cons, hq]; rfl), if_pos ⟨rfl, rfl, by rw [List.length_map]; rw [List.length_cons] at h4; omega, nz, rfl⟩, if_neg (fun e => w0 ?_)]
      have e := (List.cons.inj e).1
      rw [← q2]
      exact (zero_word q1).mpr e
    have sd : stepD b mw [] (Txt.split (markL z w) " ") = some (mw ++ [(z, w)], []) := by
      rw [split_mark hz]
      unfold stepD
      rw [List.map_nil, st]
      show (if ("mark" : Str) = "mark" then some (mw ++ [(z, numV (tl (istr w)))], []) else _) = _
      rw [if_pos rfl, q2]
    rw [List.zipWith_cons_cons, List.cons_append, walkD_cons, sd]
    show walkD b (List.zipWith markL r v ++ rest) (mw ++ [(z, w)]) [] = _
    rw [walk_marks hb r v (mw ++ [(z, w)]) rest (by simpa using hl) (by rw [List.length_append, List.length_singleton]; rw [List.length_cons] at h4; omega) (by rw [List.map_append, List.append_assoc]; exact nd) (fun y hy => hn y (List.mem_cons_of_mem _ hy)) (fun y hy => hw y (List.mem_cons_of_mem _ hy)), List.zip_cons_cons, List.append_assoc]
    rfl
theorem flat_len {m : Nat} : ∀ {M : List (List Int)}, (∀ row ∈ M, row.length = m) → M.flatten.length = M.length * m
  | [], _ => by simp
  | r :: t, h => by
    rw [List.flatten_cons, List.length_append, flat_len fun x hx => h x (List.mem_cons_of_mem _ hx), h r List.mem_cons_self, List.length_cons, Nat.succ_mul, Nat.add_comm]
theorem nums_back : ∀ {l : List Int}, (∀ z ∈ l, -1000000000000 ≤ z ∧ z ≤ 1000000000000) → (l.map istr).map (fun z => numV (tl z)) = l
  | [], _ => rfl
  | x :: r, h => by
    obtain ⟨h1, h2⟩ := h x List.mem_cons_self
    rw [List.map_cons, List.map_cons, (istr_q h1 h2).2, nums_back fun z hz => h z (List.mem_cons_of_mem _ hz)]
/-- a table's entries -/
def MatOk (b : Int) (m : Nat) (M : List (List Int)) : Prop := M.length = m ∧ ∀ row ∈ M, row.length = m ∧ ∀ z ∈ row, TOk b z
theorem walk_kinds {b : Int} (hb : 0 ≤ b) {mw : List (Str × Int)} (hm : 1 ≤ mw.length) : ∀ (ks2 : List Str) (Ms2 : List (List (List Int))) (kw : List (Str × List Int)), ks2.length = Ms2.length → kw.length + ks2.length ≤ 3 → (kw.map (·.1) ++ ks2).Nodup → (∀ z ∈ ks2, IsNm z) → (∀ M ∈ Ms2, MatOk b mw.length M) →
    walkD b (List.zipWith kindL ks2 Ms2) mw kw = some (mw, kw ++ ks2.zip (Ms2.map List.flatten))
  | [], [], kw, _, _, _, _, _ => by
    rw [List.map_nil, List.zip_nil_left, List.append_nil]
    rfl
  | [], _ :: _, _, h, _, _, _, _ => by cases h
  | _ :: _, [], _, h, _, _, _, _ => by cases h
  | k :: r, M :: v, kw, hl, h3, nd, hn, hM => by
    have hk := hn k List.mem_cons_self
    obtain ⟨m1, m2⟩ := hM M List.mem_cons_self
    have ne : M ≠ [] := fun e => by
      rw [e] at m1
      rw [← m1] at hm
      exact absurd hm (by decide)
    have nr : ∀ row ∈ M, row ≠ [] := fun row hr e => by
      have := (m2 row hr).1
      rw [e] at this
      rw [← this] at hm
      exact absurd hm (by decide)
    have nk : k ∉ kw.map (·.1) := fun m => by
      have := (List.nodup_append.mp nd).2.2 k m k List.mem_cons_self
      exact this rfl
    have hfl : ∀ z ∈ M.flatten, TOk b z := fun z hz => by
      obtain ⟨row, h1, h2⟩ := List.mem_flatten.mp hz
      exact (m2 row h1).2 z h2
    have ha : ((M.flatten.map istr).all fun z => numQ 14 (tl z) && wokB b (numV (tl z))) = true := by
      rw [List.all_eq_true]
      intro y hy
      obtain ⟨i, hi, rfl⟩ := List.mem_map.mp hy
      obtain ⟨t1, t2, t3⟩ := hfl i hi
      exact word_of t1 t2 hb t3
    have len : (M.flatten.map istr).length = (mw.map (·.1)).length * (mw.map (·.1)).length := by
      rw [List.length_map, List.length_map, flat_len fun row hr => (m2 row hr).1, m1]
    have st : stepM b (mw.map (·.1)) (kw.map (·.1)) (("kind" : Str) :: k :: M.flatten.map istr) = some (mw.map (·.1), kw.map (·.1) ++ [k]) := by
      rw [stepM_eq, if_pos (by unfold okLine; rw [nmB_of hk, ha]; rfl), if_neg (fun e => absurd e.1 (by decide +kernel)), if_pos ⟨rfl, len, (fun e => by
        have := congrArg List.length e
        rw [List.length_map] at this
        rw [this] at hm
        exact absurd hm (by decide)), by rw [List.length_map]; rw [List.length_cons] at h3; omega, nk⟩]
    have sd : stepD b mw kw (Txt.split (kindL k M) " ") = some (mw, kw ++ [(k, M.flatten)]) := by
      rw [split_kind hk ne nr]
      unfold stepD
      rw [st]
      show (if ("kind" : Str) = "mark" then _ else some (mw, kw ++ [(k, (M.flatten.map istr).map fun z => numV (tl z))])) = _
      rw [if_neg (by decide +kernel), nums_back fun z hz => ⟨(hfl z hz).1, (hfl z hz).2.1⟩]
    rw [List.zipWith_cons_cons, walkD_cons, sd]
    show walkD b (List.zipWith kindL r v) mw (kw ++ [(k, M.flatten)]) = _
    rw [walk_kinds hb hm r v (kw ++ [(k, M.flatten)]) (by simpa using hl) (by rw [List.length_append, List.length_singleton]; rw [List.length_cons] at h3; omega) (by rw [List.map_append, List.append_assoc]; exact nd) (fun y hy => hn y (List.mem_cons_of_mem _ hy)) (fun y hy => hM y (List.mem_cons_of_mem _ hy)), List.map_cons, List.zip_cons_cons, List.append_assoc]
    rfl
end OG
set_option Elab.async false
set_option linter.all false
set_option maxRecDepth 100000
set_option maxHeartbeats 4000000
namespace OG
open PySem PySem.Spec PyProof.Rows L2
theorem joinL_mem {S : List Nat} {c : Nat} : ∀ {ls : List (List Nat)}, c ∈ TL.joinL S ls → c ∈ S ∨ ∃ l ∈ ls, c ∈ l
  | [], h => by cases h
  | [a], h => .inr ⟨a, List.mem_cons_self, h⟩
  | a :: b :: r, h => by
    rw [joinL_cons S a (by simp)] at h
    rcases List.mem_append.mp h with h | h
    · exact .inr ⟨a, List.mem_cons_self, h⟩
    · rcases List.mem_append.mp h with h | h
      · exact .inl h
      · rcases joinL_mem h with h | ⟨l, hl, hc⟩
        · exact .inl h
        · exact .inr ⟨l, List.mem_cons_of_mem _ hl, hc⟩
theorem join_free {ls : List Str} {c : Nat} (hc : c ≠ 32) (h : ∀ l ∈ ls, c ∉ TL.tl l) : c ∉ TL.tl (Txt.join " " ls) := fun m => by
  rw [tl_jn] at m
  rcases joinL_mem m with m | ⟨l, hl, m⟩
  · have e : TL.tl (" " : Str) = [32] := by decide +kernel
    rw [e, List.mem_singleton] at m
    exact hc m
  · obtain ⟨z, hz, rfl⟩ := List.mem_map.mp hl
    exact h z hz m
theorem mark_free {z : Str} (hz : IsNm z) (w : Int) : 10 ∉ TL.tl (markL z w) := by
  rw [mark_words]
  refine join_free (by decide) fun l hl => ?_
  simp only [List.mem_cons, List.mem_nil_iff, or_false] at hl
  rcases hl with rfl | rfl | rfl
  · decide +kernel
  · exact nm_free hz (by decide)
  · exact istr_free (by decide)
theorem kind_free {k : Str} (hk : IsNm k) {M : List (List Int)} (hM : M ≠ []) (hr : ∀ row ∈ M, row ≠ []) : 10 ∉ TL.tl (kindL k M) := by
  rw [kind_words k hM hr]
  refine join_free (by decide) fun l hl => ?_
  rcases List.mem_cons.mp hl with rfl | hl
  · decide +kernel
  · rcases List.mem_cons.mp hl with rfl | hl
    · exact nm_free hk (by decide)
    · obtain ⟨i, _, rfl⟩ := List.mem_map.mp hl
      exact istr_free (by decide)
theorem book_free (b : Int) : 10 ∉ TL.tl ("book " ++ istr b) := by
  rw [book_words]
  refine join_free (by decide) fun l hl => ?_
  simp only [List.mem_cons, List.mem_nil_iff, or_false] at hl
  rcases hl with rfl | rfl
  · decide +kernel
  · exact istr_free (by decide)
theorem zw_mem {α β γ : Type} {f : α → β → γ} : ∀ {xs : List α} {ys : List β} {z : γ}, z ∈ List.zipWith f xs ys → ∃ x y, x ∈ xs ∧ y ∈ ys ∧ z = f x y
  | [], _, _, h => by simp at h
  | _ :: _, [], _, h => by simp at h
  | x :: xs, y :: ys, z, h => by
    rw [List.zipWith_cons_cons] at h
    rcases List.mem_cons.mp h with e | h
    · exact ⟨x, y, List.mem_cons_self, List.mem_cons_self, e⟩
    · obtain ⟨a, c, h1, h2, e⟩ := zw_mem h
      exact ⟨a, c, List.mem_cons_of_mem _ h1, List.mem_cons_of_mem _ h2, e⟩
theorem MatOk.ne {b : Int} {m : Nat} {M : List (List Int)} (h : MatOk b m M) (hm : 1 ≤ m) : M ≠ [] ∧ ∀ row ∈ M, row ≠ [] := by
  refine ⟨fun e => ?_, fun row hr e => ?_⟩
  · have := h.1
    rw [e] at this
    rw [← this] at hm
    exact absurd hm (by decide)
  · have := (h.2 row hr).1
    rw [e] at this
    rw [← this] at hm
    exact absurd hm (by decide)
/-- an own text, its lines -/
theorem own_lines {b : Int} {m : Nat} {ms ks : List Str} {ws : List Int} {Ms : List (List (List Int))} (ok : BkOk b m ms ws ks Ms) (hM : ∀ M ∈ Ms, MatOk b m M) : Txt.split (bookText b ms ws ks Ms) "\n" = bookLines b ms ws ks Ms := by
  unfold bookText
  refine split_nl (by unfold bookLines; simp) fun l hl => ?_
  unfold bookLines at hl
  rcases List.mem_cons.mp hl with rfl | hl
  · exact book_free b
  · rcases List.mem_append.mp hl with hl | hl
    · obtain ⟨z, w, h1, _, rfl⟩ := zw_mem hl
      exact mark_free (ok.nm.is z h1) w
    · obtain ⟨k, M, h1, h2, rfl⟩ := zw_mem hl
      obtain ⟨n1, n2⟩ := (hM M h2).ne ok.m1
      exact kind_free (ok.nk.is k h1) n1 n2
/-- .. what they tell -/
theorem own_walk {b : Int} {m : Nat} {ms ks : List Str} {ws : List Int} {Ms : List (List (List Int))} (ok : BkOk b m ms ws ks Ms) (hM : ∀ M ∈ Ms, MatOk b m M) :
    walkD b (List.zipWith markL ms ws ++ List.zipWith kindL ks Ms) [] [] = some (ms.zip ws, ks.zip (Ms.map List.flatten)) := by
  have hl := ok.nm.len
  have hw := ok.wl
  rw [walk_marks ok.b0 ms ws [] _ (by omega) (by have := ok.m4; show 0 + ms.length ≤ 4; omega) (by simpa using ok.nm.nd) ok.nm.is ok.w, List.nil_append]
  have lz : (ms.zip ws).length = m := by
    rw [List.length_zip]
    omega
  rw [walk_kinds ok.b0 (by rw [lz]; exact ok.m1) ks Ms [] ok.ml.symm (by have := ok.k3; show 0 + ks.length ≤ 3; omega) (by simpa using ok.nk.nd) ok.nk.is (by rw [lz]; exact hM), List.nil_append]
theorem mats_of {H : Hp} {o : Addr} {b : Int} {m : Nat} {ms ks : List Str} {ws : List Int} {Ms : List (List (List Int))} (hB : BookAt H o b m ms ws ks Ms) (ok : BkOk b m ms ws ks Ms) : ∀ M ∈ Ms, MatOk b m M := by
  intro M h
  obtain ⟨i, hi⟩ := List.getElem?_of_mem h
  have lt := (List.getElem?_eq_some_iff.mp hi).1
  have hk : i < ks.length := by
    have := ok.ml
    omega
  obtain ⟨kvs, tm, tw, tk, td, _, _, _, _, _, _, _, _, _, _, tkvs, _, _, _, tabs⟩ := hB
  obtain ⟨t, M', _, e, rs, _, _, m3, _, m5⟩ := tabs i ks[i] (List.getElem?_eq_getElem hk)
  rw [hi] at e
  have e := Option.some.inj e
  subst e
  exact ⟨m3, m5⟩
/-- the walks go together -/
theorem walk_both {b : Int} : ∀ {ls : List Str} {i : Nat} {mw : List (Str × Int)} {kw : List (Str × List Int)} {mw' : List (Str × Int)} {kw' : List (Str × List Int)}, walkD b ls mw kw = some (mw', kw') → walkM b ls i (mw.map (·.1)) (kw.map (·.1)) = .inr (mw'.map (·.1), kw'.map (·.1))
  | [], i, mw, kw, mw', kw', h => by
    have h := Option.some.inj h
    cases h
    rfl
  | l :: r, i, mw, kw, mw', kw', h => by
    rw [walkD_cons] at h
    cases e : stepD b mw kw (Txt.split l " ") with
    | none =>
      rw [e] at h
      cases h
    | some mk =>
      rw [e] at h
      have ih := walk_both (i := i + 1) (show walkD b r mk.1 mk.2 = some (mw', kw') from h)
      have st : stepM b (mw.map (·.1)) (kw.map (·.1)) (Txt.split l " ") = some (mk.1.map (·.1), mk.2.map (·.1)) := by
        unfold stepD at e
        cases em : stepM b (mw.map (·.1)) (kw.map (·.1)) (Txt.split l " ") with
        | none =>
          rw [em] at e
          cases e
        | some q =>
          rw [em] at e
          cases ew : Txt.split l " " with
          | nil =>
            rw [ew] at e
            cases e
          | cons w0 t =>
            cases t with
            | nil =>
              rw [ew] at e
              cases e
            | cons w1 rest =>
              rw [ew] at e em
              have e : (if w0 = "mark" then some (mw ++ [(w1, numV (tl (rest.head?.getD "")))], kw) else some (mw, kw ++ [(w1, rest.map fun z => numV (tl z))])) = some mk := e
              rw [stepM_eq] at em
              by_cases ho : okLine b w1 rest = true
              · rw [if_pos ho] at em
                by_cases h0 : w0 = "mark"
                · rw [if_pos h0] at e
                  have e := Option.some.inj e
                  by_cases hm : w0 = "mark" ∧ kw.map (·.1) = [] ∧ (mw.map (·.1)).length < 4 ∧ w1 ∉ mw.map (·.1) ∧ rest.length = 1
                  · rw [if_pos hm] at em
                    by_cases hz : rest = [("0" : Str)]
                    · rw [if_pos hz] at em
                      cases em
                    · rw [if_neg hz] at em
                      rw [← e, ← Option.some.inj em, List.map_append]
                      rfl
                  · rw [if_neg hm, if_neg (fun z => by
                      have := h0.symm.trans z.1
                      exact absurd this (by decide +kernel))] at em
                    cases em
                · rw [if_neg h0] at e
                  have e := Option.some.inj e
                  rw [if_neg (fun z => h0 z.1)] at em
                  by_cases hk : w0 = "kind" ∧ rest.length = (mw.map (·.1)).length * (mw.map (·.1)).length ∧ mw.map (·.1) ≠ [] ∧ (kw.map (·.1)).length < 3 ∧ w1 ∉ kw.map (·.1)
                  · rw [if_pos hk] at em
                    rw [← e, ← Option.some.inj em, List.map_append]
                    rfl
                  · rw [if_neg hk] at em
                    cases em
              · rw [if_neg ho] at em
                cases em
      show (match stepM b (mw.map (·.1)) (kw.map (·.1)) (Txt.split l " ") with
        | none => Sum.inl i
        | some mk => walkM b r (i + 1) mk.1 mk.2) = _
      rw [st]
      exact ih
end OG
set_option Elab.async false
set_option linter.all false
set_option maxRecDepth 100000
set_option maxHeartbeats 8000000
namespace OG
open PySem PySem.Spec PyProof.Rows L2
/-- a dict of worths -/
def KvK (H : Hp) (kv : List (Key × V)) (kw : List (Str × List Int)) : Prop := Paired (fun (p : Key × V) (q : Str × List Int) => p.1 = Sum.inr q.1 ∧ ∃ t, p.2 = V.ref t ∧ H t = some (.tup (q.2.map V.int))) kv kw
def kvM (mw : List (Str × Int)) : List (Key × V) := mw.map fun p => (Sum.inr p.1, V.int p.2)
theorem kvM_keys (mw : List (Str × Int)) : (kvM mw).map (·.1) = (mw.map (·.1)).map Sum.inr := by
  unfold kvM
  rw [List.map_map, List.map_map]
  rfl
theorem KvK.keys {H : Hp} : ∀ {kv : List (Key × V)} {kw : List (Str × List Int)}, KvK H kv kw → kv.map (·.1) = (kw.map (·.1)).map Sum.inr
  | _, _, .nil => rfl
  | _, _, .cons h r => by
    rw [List.map_cons, List.map_cons, List.map_cons, KvK.keys r, h.1]
theorem KvK.k2 {a1 a2 : Addr} {H H' : Hp} {u1 u2 : List (Key × V)} (k : K2 a1 a2 H H') (h1 : H a1 = some (.dK u1)) (h2 : H a2 = some (.dK u2)) : ∀ {kv : List (Key × V)} {kw : List (Str × List Int)}, KvK H kv kw → KvK H' kv kw
  | _, _, .nil => .nil
  | _, _, .cons h r => by
    obtain ⟨e, t, et, ht⟩ := h
    refine .cons ⟨e, t, et, k t _ (fun z => ?_) (fun z => ?_) ht⟩ (KvK.k2 k h1 h2 r)
    · rw [z, h1] at ht
      cases ht
    · rw [z, h2] at ht
      cases ht
theorem KvK.snoc {H : Hp} {x : Str} {l : List Int} {t : Addr} (ht : H t = some (.tup (l.map V.int))) : ∀ {kv : List (Key × V)} {kw : List (Str × List Int)}, KvK H kv kw → KvK H (kv ++ [(Sum.inr x, V.ref t)]) (kw ++ [(x, l)])
  | _, _, .nil => .cons ⟨rfl, t, rfl, ht⟩ .nil
  | _, _, .cons h r => .cons h (KvK.snoc ht r)
theorem stepD_mark {b : Int} {mw : List (Str × Int)} {kw : List (Str × List Int)} {w1 w2 : Str} {q : List Str × List Str} (h : stepM b (mw.map (·.1)) (kw.map (·.1)) [("mark" : Str), w1, w2] = some q) : stepD b mw kw [("mark" : Str), w1, w2] = some (mw ++ [(w1, numV (tl w2))], kw) := by
  unfold stepD
  rw [h]
  show (if ("mark" : Str) = "mark" then some (mw ++ [(w1, numV (tl w2))], kw) else _) = _
  rw [if_pos rfl]
theorem stepD_kind {b : Int} {mw : List (Str × Int)} {kw : List (Str × List Int)} {w1 : Str} {rest : List Str} {q : List Str × List Str} (h : stepM b (mw.map (·.1)) (kw.map (·.1)) (("kind" : Str) :: w1 :: rest) = some q) : stepD b mw kw (("kind" : Str) :: w1 :: rest) = some (mw, kw ++ [(w1, rest.map fun z => numV (tl z))]) := by
  unfold stepD
  rw [h]
  show (if ("kind" : Str) = "mark" then _ else some (mw, kw ++ [(w1, rest.map fun z => numV (tl z))])) = _
  rw [if_neg (by decide +kernel)]
section
variable {P : Program} {w : World} {K : PySem.W.Frag} {mg : Str → Option Value} {base : Heap}
def spReadX (T : Txt K mg) : Sp := fun vs H Q E => ∃ z : Str, vs = [.str z] ∧ z.length ≤ 900000 ∧
  (∀ n : Nat, wrongM z = some n → ∀ (d : Addr) (H' : Hp), Same H H' → H' d = some (.xd [("value", .int (n : Int))]) → E (.ref T.c_BadBook) (some d) H') ∧
  (wrongM z = none → ∀ (t a1 a2 : Addr) (b : Int) (mw : List (Str × Int)) (kw : List (Str × List Int)) (kv2 : List (Key × V)) (H' : Hp), Same H H' → H a1 = none → H a2 = none → H' t = some (.tup [.int b, .ref a1, .ref a2]) → H' a1 = some (.dK (kvM mw)) → H' a2 = some (.dK kv2) → KvK H' kv2 kw →
    byM (Txt.split ((Txt.split z "\n").head?.getD "") " ") = some b → walkD b ((Txt.split z "\n").drop 1) [] [] = some (mw, kw) → Q (.ref t) H')
theorem ok_read_book2 (T : Txt K mg) (XT : TxtX K mg T) : FnOk P w K mg base (L2.CX P w) 5 T.f_read_book T.fd_read_book ["text"] (spReadX T) := by
  refine T.F_read_book.okX sc_read_book (fun vs H Q E h => ?_) (fun cdv A outer s H vs Q E hr h => ?_)
  · obtain ⟨z, rfl, _⟩ := h
    rfl
  · obtain ⟨z, rfl, hz, qe, qn⟩ := h
    refine ⟨_, (pss_cons (ps_set (i := 1) sc_read_book.nd rfl (Or.inl rfl) (pe_split (pv 0) pe_str))
  (pss_cons (ps_set (i := 2) sc_read_book.nd rfl (Or.inl rfl) (pe_call (ok_read_by T) (hr.mono (by decide)) (by rfl) T.g_read_by T.F_read_by.kp T.b_read_by .nil pass0 (pa_cons (pe_split (pe_ix ix_list (pv 1) pe_int (fun _ _ => rfl)) pe_str) pa_nil)))
  (pss_cons (ps_if (pt_cmpR op_isN (pv 2) pe_non (nomark _)) (pss_one (ps_raise rfl (takes_of rfl rfl rfl rfl) (pmk_oex XT.exB XT.inB XT.tyI (ok_GateError_init T) (hr.mono (by decide)) T.b_GateError_init .nil pass0 (by rfl) T.g_BadBook (pa_cons pe_int pa_nil)))) pss_nil)
  (pss_cons (ps_set (i := 3) sc_read_book.nd rfl (Or.inl rfl) pe_dnewK)
  (pss_cons (ps_set (i := 4) sc_read_book.nd rfl (Or.inl rfl) pe_dnewK)
  (pss_cons (ps_for (passes_of rfl) rfl (OGX.pi_enumS (by rfl) T.n_enumerate (pa_cons (pe_slice sl_list (pv 1) (po_some pe_int) po_none) pa_nil) (pk_cons pe_int pk_nil)) (pg_tup (by rfl) (pgs_cons (pg_name (i := 5) sc_read_book.nd rfl (Or.inl rfl)) (pgs_cons (pg_name (i := 6) sc_read_book.nd rfl (Or.inl rfl)) pgs_nil))) (pss_cons (ps_set (i := 7) sc_read_book.nd rfl (Or.inl rfl) (pe_split (pv 6) pe_str))
  (pss_one (ps_if (PW.pt (pw_and (pt_not (pt_truth (pv 4) (by intro _; rfl))) (pw_and1 (pt_val (pe_call (ok_is_mark T) (hr.mono (by decide)) (by rfl) T.g_is_mark T.F_is_mark.kp T.b_is_mark .nil pass0 (pa_cons (pv 7) (pa_cons (pv 2) (pa_cons (pv 3) pa_nil)))))))) (pss_one (ps_dput (hu_of hr) (pv 3) (pe_ix ix_list (pv 7) pe_int (fun _ _ => rfl)) (pe_callTy call_int_str (by rfl) T.n_int (by decide +kernel) (pa_cons (pe_ix ix_list (pv 7) pe_int (fun _ _ => rfl)) pa_nil)) rfl)) (pss_one (ps_if (PW.pt (pw_and (pt_truth (pv 3) (by intro _; rfl)) (pw_and1 (pt_val (pe_call (ok_is_kind T) (hr.mono (by decide)) (by rfl) T.g_is_kind T.F_is_kind.kp T.b_is_kind .nil pass0 (pa_cons (pv 7) (pa_cons (pv 2) (pa_cons (pv 4) (pa_cons (pe_callB call_lenD (by rfl) T.n_len PySem.boot_len (pa_cons (pv 3) pa_nil)) pa_nil))))))))) (pss_one (ps_dput (hu_of hr) (pv 4) (pe_ix ix_list (pv 7) pe_int (fun _ _ => rfl)) (pe_callTy call_tuple_of (by rfl) T.n_tuple (by decide +kernel) (pa_cons (pe_lc (own := [("word", 8)]) (g := gName 8) (by rfl) sc_read_book.nd (pi_list (pe_slice sl_list (pv 7) (po_some pe_int) po_none)) (blkOk_by (own := [("word", 8)]) (by rfl)) (fun _ _ _ _ _ => (pg_name (i := 8) sc_read_book.nd rfl (Or.inl rfl))) (fun _ _ _ _ _ => pts_nil) (fun _ _ _ _ _ => (pe_callTy call_int_str (by rfl) T.n_int (by decide +kernel) (pa_cons (pv 8) pa_nil)))) pa_nil)) rfl)) (pss_one (ps_raise rfl (takes_of rfl rfl rfl rfl) (pmk_oex XT.exB XT.inB XT.tyI (ok_GateError_init T) (hr.mono (by decide)) T.b_GateError_init .nil pass0 (by rfl) T.g_BadBook (pa_cons (pv 5) pa_nil))))))))))
  (pss_cons (ps_if (pt_not (pt_truth (pv 4) (by intro _; rfl))) (pss_one (ps_raise rfl (takes_of rfl rfl rfl rfl) (pmk_oex XT.exB XT.inB XT.tyI (ok_GateError_init T) (hr.mono (by decide)) T.b_GateError_init .nil pass0 (by rfl) T.g_BadBook (pa_cons (pe_op op_add (pe_callB call_len_seq (by rfl) T.n_len PySem.boot_len (pa_cons (pv 1) pa_nil)) pe_int) pa_nil)))) pss_nil)
  (pss_one (ps_ret (pe_tup (pa_cons (pv 2) (pa_cons (pv 3) (pa_cons (pv 4) pa_nil))))))))))))), ?_⟩
    obtain ⟨n1, l1, p1⟩ := split_facts z "\n" rfl (by decide +kernel)
    have em : wrongM z = match byM (Txt.split ((Txt.split z "\n").head?.getD "") " ") with
      | none => some 1
      | some b => match walkM b ((Txt.split z "\n").drop 1) 2 [] [] with
        | .inl i => some i
        | .inr mk => if mk.2 = [] then some ((Txt.split z "\n").length + 1) else none := rfl
    rw [em] at qe qn
    obtain ⟨ls, hls⟩ : ∃ ls, Txt.split z "\n" = ls := ⟨_, rfl⟩
    rw [hls] at qe qn n1 l1 p1
    refine ⟨.str z, rfl, ⟨_, rfl⟩, z, _, rfl, rfl, rfl, le_line (by omega), fun pl hpl => ?_⟩
    rw [hls]
    have s1 := same_new (o := .lst (ls.map V.str)) hpl
    have hpl1 : (upd H pl (.lst (ls.map V.str))) pl = some (.lst (ls.map V.str)) := upd_same
    generalize upd H pl (.lst (ls.map V.str)) = H1 at *
    obtain ⟨l0, lr, rfl⟩ : ∃ l0 lr, ls = l0 :: lr := by
      cases ls with
      | nil => exact absurd rfl n1
      | cons a b => exact ⟨a, b, rfl⟩
    have hl0 : l0.length ≤ 900000 := Nat.le_trans (p1 l0 List.mem_cons_self) hz
    refine ⟨.ref pl, rfl, pl, _, ((0 : Nat) : Int), _, rfl, rfl, SqL.of hpl1, atI_nat rfl, ⟨_, rfl⟩, l0, _, rfl, rfl, rfl, le_line (by omega), fun wl hwl => ?_⟩
    obtain ⟨m1, m2, m3⟩ := split_facts l0 " " rfl (by decide +kernel)
    have s2 := same_new (o := .lst ((Txt.split l0 " ").map V.str)) hwl
    refine ⟨wl, Txt.split l0 " ", rfl, upd_same, m1, fun y hy => Nat.le_trans (m3 y hy) (by omega), fun H2 s3 => ?_⟩
    have sA := (s1.trans s2).trans s3
    have hpl2 := s3 _ _ (s2 _ _ hpl1)
    have qe : ∀ n : Nat, (match byM (Txt.split l0 " ") with
      | none => some 1
      | some b => match walkM b lr 2 [] [] with
        | .inl i => some i
        | .inr mk => if mk.2 = [] then some (lr.length + 1 + 1) else none) = some n → ∀ (d : Addr) (H' : Hp), Same H H' → H' d = some (.xd [("value", .int (n : Int))]) → E (.ref T.c_BadBook) (some d) H' := qe
    have qn : (match byM (Txt.split l0 " ") with
      | none => some 1
      | some b => match walkM b lr 2 [] [] with
        | .inl i => some i
        | .inr mk => if mk.2 = [] then some (lr.length + 1 + 1) else none) = none → ∀ (t a1 a2 : Addr) (b : Int) (mw : List (Str × Int)) (kw : List (Str × List Int)) (kv2 : List (Key × V)) (H' : Hp), Same H H' → H a1 = none → H a2 = none → H' t = some (.tup [.int b, .ref a1, .ref a2]) → H' a1 = some (.dK (kvM mw)) → H' a2 = some (.dK kv2) → KvK H' kv2 kw →
        byM (Txt.split l0 " ") = some b → walkD b lr [] [] = some (mw, kw) → Q (.ref t) H' := qn
    cases hb : byM (Txt.split l0 " ") with
    | none =>
      rw [hb] at qe
      refine ⟨_, rfl, rfl, _, rfl, ?_⟩
      refine bad_made XT fun d H' s' hd => ?_
      exact qe 1 rfl d H' (sA.trans s') hd
    | some b =>
      rw [hb] at qe qn
      obtain ⟨b0, b97⟩ := byM_ok hb
      refine ⟨.int b, rfl, rfl, _, rfl, ?_⟩
      refine iteF ?_
      dsimp only [tNext]
      refine fun a1 ha1 => ?_
      refine fun a2 ha2 => ?_
      have n12 : a1 ≠ a2 := fun e => by
        rw [← e, upd_same] at ha2
        cases ha2
      have t1 := same_new (o := .dK []) ha1
      have t2 := same_new (o := .dK []) ha2
      have h1 : (upd (upd H2 a1 (.dK [])) a2 (.dK [])) a1 = some (.dK []) := t2 _ _ upd_same
      have h2 : (upd (upd H2 a1 (.dK [])) a2 (.dK [])) a2 = some (.dK []) := upd_same
      have nH1 : ∀ x o, H x = some o → x ≠ a1 := fun x o e => ne_of_none (sA _ _ e) ha1
      have nH2 : ∀ x o, H x = some o → x ≠ a2 := fun x o e => ne_of_none (t1 _ _ (sA _ _ e)) ha2
      have hpl3 := t2 _ _ (t1 _ _ hpl2)
      have sB := (sA.trans t1).trans t2
      have npl1 : pl ≠ a1 := ne_of_none hpl2 ha1
      have npl2 : pl ≠ a2 := ne_of_none (t1 _ _ hpl2) ha2
      generalize upd (upd H2 a1 (.dK [])) a2 (.dK []) = H3 at *
      have ec : cutV ((l0 :: lr).map V.str) (some 1) none = lr.map V.str := by
        rw [show (1 : Int) = ((1 : Nat) : Int) from rfl, cut_from]
        rfl
      refine ⟨.ref pl, rfl, _, rfl, pl, _, rfl, SqL.of hpl3, fun sl hsl => ?_⟩
      have s4 := same_new (o := .lst (cutV ((l0 :: lr).map V.str) (some 1) none)) hsl
      refine ⟨sl, _, 2, rfl, rfl, by decide, SqL.of upd_same, ?_⟩
      rw [ec] at s4 ⊢
      have hsl4 : (upd H3 sl (.lst (lr.map V.str))) sl = some (.lst (lr.map V.str)) := upd_same
      have nsl1 : sl ≠ a1 := ne_of_none' h1 hsl
      have nsl2 : sl ≠ a2 := ne_of_none' h2 hsl
      have h1 := s4 _ _ h1
      have h2 := s4 _ _ h2
      have hpl4 := s4 _ _ hpl3
      have sC := sB.trans s4
      generalize upd H3 sl (.lst (lr.map V.str)) = H4 at *
      have kS : ∀ H9, K2 a1 a2 H4 H9 → Same H H9 := fun H9 k9 a o ho => k9 a o (nH1 a o ho) (nH2 a o ho) (sC _ _ ho)
      refine OGX.for_enumS (K := K) (a := sl) (xs := lr.map V.str) (m0 := 2) (fun i σ H' => ∃ (v5 v6 v7 : Option V) (mw : List (Str × Int)) (kw : List (Str × List Int)) (kv2 : List (Key × V)), σ = [some (.str z), some (.ref pl), some (.int b), some (.ref a1), some (.ref a2), v5, v6, v7, none] ∧ K2 a1 a2 H4 H' ∧
          H' a1 = some (.dK (kvM mw)) ∧ H' a2 = some (.dK kv2) ∧ KvK H' kv2 kw ∧ MkOk (mw.map (·.1)) (kw.map (·.1)) ∧ i ≤ lr.length ∧ walkM b lr 2 [] [] = walkM b (lr.drop i) (i + 2) (mw.map (·.1)) (kw.map (·.1)) ∧ walkD b lr [] [] = walkD b (lr.drop i) mw kw)
        ⟨none, none, none, [], [], [], rfl, fun _ _ _ _ h => h, h1, h2, .nil, MkOk.nil, Nat.zero_le _, rfl, rfl⟩ (fun i σ H' ⟨_, _, _, _, _, _, _, k2, _⟩ => SqL.of (k2 _ _ nsl1 nsl2 hsl4)) ?_ ?_
      · rintro i x T0 σ H5 hx ⟨v5, v6, v7, mw, kw, kv2, rfl, k2, g1, g2, eK, mk, hi, hw, hwd⟩ hT0
        have e1 := kvM_keys mw
        have e2 := KvK.keys eK
        have q1 : H5 a1 = some (.dK (kvM mw)) := g1
        have q2 : H5 a2 = some (.dK kv2) := g2
        obtain ⟨ms, hms0⟩ : ∃ ms, ms = mw.map (·.1) := ⟨_, rfl⟩
        obtain ⟨ks, hks0⟩ : ∃ ks, ks = kw.map (·.1) := ⟨_, rfl⟩
        obtain ⟨kv1, hkv1⟩ : ∃ kv1, kv1 = kvM mw := ⟨_, rfl⟩
        rw [← hms0, ← hks0] at mk hw
        rw [← hkv1] at g1 e1
        rw [← hms0] at e1
        rw [← hks0] at e2
        obtain ⟨l, hl, rfl⟩ := str_at hx
        have hil : i < lr.length := (List.getElem?_eq_some_iff.mp hl).1
        have ll : l.length ≤ 900000 := Nat.le_trans (p1 l (List.mem_cons_of_mem _ (List.mem_of_getElem? hl))) hz
        have u1 := same_new (o := .tup [.int ((2 + i : Nat) : Int), .str l]) hT0
        refine ⟨T0, _, rfl, SqT.of upd_same, rfl, _, _, rfl, _, _, rfl, rfl, ?_⟩
        refine ⟨.str l, rfl, ⟨_, rfl⟩, l, _, rfl, rfl, rfl, le_line (by omega), fun aw haw => ?_⟩
        obtain ⟨c1, c2, c3⟩ := split_facts l " " rfl (by decide +kernel)
        have u2 := same_new (o := .lst ((Txt.split l " ").map V.str)) haw
        have hW : (upd (upd H5 T0 (.tup [.int ((2 + i : Nat) : Int), .str l])) aw (.lst ((Txt.split l " ").map V.str))) aw = some (.lst ((Txt.split l " ").map V.str)) := upd_same
        have k3 := (u1.trans u2)
        generalize upd (upd H5 T0 (.tup [.int ((2 + i : Nat) : Int), .str l])) aw (.lst ((Txt.split l " ").map V.str)) = H6 at *
        have g1 := k3 _ _ g1
        have g2 := k3 _ _ g2
        have k6 : K2 a1 a2 H4 H6 := fun x o n1 n2 ho => k3 _ _ (k2 x o n1 n2 ho)
        have wdrop : lr.drop i = l :: lr.drop (i + 1) := by
          rw [List.drop_eq_getElem_cons hil]
          have e := (List.getElem?_eq_some_iff.mp hl).2
          rw [e]
        rw [wdrop] at hw hwd
        rw [walkD_cons] at hwd
        have hw : walkM b lr 2 [] [] = match stepM b ms ks (Txt.split l " ") with
          | none => Sum.inl (i + 2)
          | some mk => walkM b (lr.drop (i + 1)) (i + 2 + 1) mk.1 mk.2 := hw
        generalize Txt.split l " " = words at *
        have wz : ∀ y ∈ words, y.length ≤ 10000000 := fun y hy => Nat.le_trans (c3 y hy) (by omega)
        dsimp only [gName]
        have lk1 : kv1.length = ms.length := by
          have := congrArg List.length e1
          rwa [List.length_map, List.length_map] at this
        have lk2 : kv2.length = ks.length := by
          have := congrArg List.length e2
          rwa [List.length_map, List.length_map] at this
        refine ifs_else (fun H7 => Same H6 H7 ∧ ¬ (ks = [] ∧ MarkP b ms words)) ?_ (fun fin => ?_)
        · rintro H7 ⟨s7, nm⟩
          have g1 := s7 _ _ g1
          have g2 := s7 _ _ g2
          have hW := s7 _ _ hW
          have k7 : K2 a1 a2 H4 H7 := fun x o n1 n2 ho => s7 _ _ (k6 x o n1 n2 ho)
          refine ifs_else (fun H8 => Same H7 H8 ∧ ¬ (ms ≠ [] ∧ KindP b ks ms.length words)) ?_ (fun fin2 => ?_)
          · rintro H8 ⟨s8, nk⟩
            have k8 : K2 a1 a2 H4 H8 := fun x o n1 n2 ho => s8 _ _ (k7 x o n1 n2 ho)
            have en := step_none nm nk
            rw [en] at hw
            refine ⟨.int ((2 + i : Nat) : Int), rfl, ?_⟩
            refine bad_made XT fun d H' s' hd => ?_
            refine qe (i + 2) ?_ d H' ((kS _ k8).trans s') ?_
            · show (match walkM b lr 2 [] [] with
                | .inl i => some i
                | .inr mk => if mk.2 = [] then some (lr.length + 1 + 1) else none) = _
              rw [hw]
            · rw [show i + 2 = 2 + i by omega]
              exact hd
          · refine ⟨.ref a1, rfl, _, .inr (.inr ⟨kv1, g1, rfl⟩), ?_⟩
            by_cases hms : ms = []
            case pos =>
              have e0 : kv1 = [] := List.length_eq_zero_iff.mp (by rw [lk1, hms]; rfl)
              rw [e0]
              exact fin2 _ ⟨Same.refl _, fun z => z.1 hms⟩
            case neg =>
              have e0 : kv1.isEmpty = false := by
                cases kv1 with
                | nil => exact absurd (List.length_eq_zero_iff.mp (by rw [← lk1]; rfl)) hms
                | cons a b => rfl
              rw [e0]
              refine ⟨.ref aw, rfl, .int b, rfl, .ref a2, rfl, .ref a1, rfl, a1, kv1, rfl, g1, aw, a2, b, ms.length, kv2, ks, words, (by rw [lk1]; rfl), hW, g2, e2, c1, by omega, wz, b0, b97, mk.m4, fun r hrr H8 s8 => ?_⟩
              refine ⟨_, rfl, ?_⟩
              cases r with
              | false => exact fin2 _ ⟨s8, fun z => by
                  have := hrr.mpr z.2
                  cases this⟩
              | true =>
                obtain ⟨w1, rest, rfl, hwk, hz', hlr, est⟩ := step_kind mk hms (hrr.mp rfl)
                rw [est] at hw
                have hW := s8 _ _ hW
                have k8 : K2 a1 a2 H4 H8 := fun x o n1 n2 ho => s8 _ _ (k7 x o n1 n2 ho)
                have ec2 : cutV ((("kind" : Str) :: w1 :: rest).map V.str) (some 2) none = rest.map V.str := by
                  rw [show (2 : Int) = ((2 : Nat) : Int) from rfl, cut_from]
                  rfl
                refine ⟨.ref aw, rfl, _, rfl, aw, _, rfl, SqL.of hW, fun sl2 hsl2 => ?_⟩
                have v1 := same_new (o := .lst (cutV ((("kind" : Str) :: w1 :: rest).map V.str) (some 2) none)) hsl2
                refine ⟨sl2, rfl, ⟨_, SqL.of upd_same⟩, fun D hD => ?_⟩
                refine lc_same (K := K) (xs := rest.map V.str) fIntS (by rw [List.length_map, hlr]; exact Nat.le_trans (Nat.mul_le_mul mk.m4 mk.m4) (by decide)) (SqL.of (by rw [upd_same, ec2])) hD (fun x H' Q' hx s' hq => ?_) (fun _ => rfl) (fun H9 s9 h9 => ?_)
                · obtain ⟨y, hy, rfl⟩ := List.mem_map.mp hx
                  have hy2 := List.all_eq_true.mp hz' y hy
                  have nq := numQ_iff.mp (Bool.and_eq_true_iff.mp hy2).1
                  exact ⟨.str y, rfl, y, numV (tl y), rfl, intText_num nq (Nat.le_trans nq.len (by decide)), Nat.le_trans nq.len (by decide), hq H' (Same.refl _)⟩
                refine ⟨D, _, rfl, .inl ⟨SqL.of h9, fun t ht => ?_⟩⟩
                have v2 := same_new (o := .tup ((rest.map V.str).map fIntS)) ht
                have sF := ((s8.trans v1).trans s9).trans v2
                have sG := (v1.trans s9).trans v2
                refine ⟨.ref a2, rfl, .ref aw, rfl, aw, _, ((1 : Nat) : Int), .str w1, rfl, rfl, SqL.of (sG _ _ hW), atI_nat rfl, a2, _, rfl, .inl ⟨kv2, .inr w1, sF _ _ g2, rfl, Nat.lt_of_le_of_lt (show kv2.length ≤ 3 by rw [lk2]; exact mk.k3) (by decide), rfl⟩, ?_⟩
                have hkn : valV kv2 (.inr w1) = none := by
                  have := has_key e2 w1
                  rw [decide_eq_false hwk] at this
                  exact Option.isNone_iff_eq_none.mp (by rw [← Option.not_isSome, this]; rfl)
                rw [hms0, hks0] at est
                have esd := stepD_kind est
                rw [esd] at hwd
                have mk2 := mk.step (by rw [hms0, hks0]; exact est)
                have ew : (kw ++ [(w1, rest.map fun z => numV (tl z))]).map (·.1) = ks ++ [w1] := by
                  rw [List.map_append, ← hks0]
                  rfl
                have et : (rest.map V.str).map fIntS = (rest.map fun z => numV (tl z)).map V.int := by
                  rw [List.map_map, List.map_map]
                  rfl
                have ht2 : (upd H9 t (.tup ((rest.map V.str).map fIntS))) t = some (.tup ((rest.map fun z => numV (tl z)).map V.int)) := by rw [upd_same, et]
                have k59 : K2 a1 a2 H5 (upd H9 t (.tup ((rest.map V.str).map fIntS))) := fun x o n1 n2 ho => sF _ _ (s7 _ _ (k3 _ _ ho))
                have eK9 := KvK.snoc (x := w1) ht2 (KvK.k2 k59 q1 q2 eK)
                have sfin : K2 a1 a2 (upd H9 t (.tup ((rest.map V.str).map fIntS))) (upd (upd H9 t (.tup ((rest.map V.str).map fIntS))) a2 (.dK (putK kv2 (.inr w1) (.ref t)))) := fun x o n1 n2 ho => by
                  rw [upd_ne n2]
                  exact ho
                refine ⟨_, _, _, mw, kw ++ [(w1, rest.map fun z => numV (tl z))], putK kv2 (.inr w1) (.ref t), rfl, fun x o n1 n2 ho => ?_, ?_, upd_same, ?_, ?_, by omega, ?_, hwd⟩
                · rw [upd_ne n2]
                  exact sG _ _ (k8 x o n1 n2 ho)
                · rw [upd_ne n12, ← hkv1]
                  exact sF _ _ g1
                · rw [putK_new _ hkn]
                  rw [putK_new _ hkn] at sfin
                  exact KvK.k2 sfin (sF _ _ g1) (sF _ _ g2) eK9
                · rw [ew, ← hms0]
                  rw [← hms0, ← hks0] at est
                  exact mk.step est
                · rw [ew, ← hms0]
                  exact hw
        · refine ⟨.ref a2, rfl, _, .inr (.inr ⟨kv2, g2, rfl⟩), ?_⟩
          by_cases hks : ks = []
          case neg =>
            have e0 : kv2.isEmpty = false := by
              cases kv2 with
              | nil => exact absurd (List.length_eq_zero_iff.mp (by rw [← lk2]; rfl)) hks
              | cons a b => rfl
            rw [e0]
            exact fin _ ⟨Same.refl _, fun z => hks z.1⟩
          case pos =>
            have e0 : kv2 = [] := List.length_eq_zero_iff.mp (by rw [lk2, hks]; rfl)
            rw [e0]
            refine ⟨.ref aw, rfl, .int b, rfl, .ref a1, rfl, aw, a1, b, kv1, ms, words, rfl, hW, g1, e1, c1, wz, b0, b97, fun r hrr H8 s8 => ?_⟩
            refine ⟨_, rfl, ?_⟩
            cases r with
            | false => exact fin _ ⟨s8, fun z => by
                have := hrr.mpr z.2
                cases this⟩
            | true =>
              obtain ⟨w1, w2, rfl, hwk, hq2, est⟩ := step_mark mk hks (hrr.mp rfl)
              rw [est] at hw
              have hW := s8 _ _ hW
              have k8 : K2 a1 a2 H4 H8 := fun x o n1 n2 ho => s8 _ _ (k6 x o n1 n2 ho)
              have nq := numQ_iff.mp hq2
              refine ⟨.ref aw, rfl, aw, _, ((2 : Nat) : Int), .str w2, rfl, rfl, SqL.of hW, atI_nat rfl, w2, numV (tl w2), rfl, intText_num nq (Nat.le_trans nq.len (by decide)), Nat.le_trans nq.len (by decide), ?_⟩
              refine ⟨.ref a1, rfl, .ref aw, rfl, aw, _, ((1 : Nat) : Int), .str w1, rfl, rfl, SqL.of hW, atI_nat rfl, a1, _, rfl, .inl ⟨kv1, .inr w1, s8 _ _ g1, rfl, Nat.lt_of_le_of_lt (show kv1.length ≤ 4 by rw [lk1]; exact mk.m4) (by decide), rfl⟩, ?_⟩
              have hkn : valV kv1 (.inr w1) = none := by
                have := has_key e1 w1
                rw [decide_eq_false hwk] at this
                exact Option.isNone_iff_eq_none.mp (by rw [← Option.not_isSome, this]; rfl)
              have est2 := est
              rw [hms0, hks0] at est2
              have esd := stepD_mark est2
              rw [esd] at hwd
              have ew : (mw ++ [(w1, numV (tl w2))]).map (·.1) = ms ++ [w1] := by
                rw [List.map_append, ← hms0]
                rfl
              have epk : putK kv1 (.inr w1) (.int (numV (tl w2))) = kvM (mw ++ [(w1, numV (tl w2))]) := by
                rw [putK_new _ hkn, hkv1]
                unfold kvM
                rw [List.map_append]
                rfl
              have kfin : K2 a1 a2 H5 (upd H8 a1 (.dK (putK kv1 (.inr w1) (.int (numV (tl w2)))))) := fun x o n1 n2 ho => by
                rw [upd_ne n1]
                exact s8 _ _ (k3 _ _ ho)
              refine ⟨_, _, _, mw ++ [(w1, numV (tl w2))], kw, kv2, rfl, fun x o n1 n2 ho => ?_, by rw [upd_same, epk], ?_, KvK.k2 kfin q1 q2 eK, ?_, by omega, ?_, hwd⟩
              · rw [upd_ne n1]
                exact k8 x o n1 n2 ho
              · rw [upd_ne n12.symm]
                exact s8 _ _ g2
              · rw [ew, ← hks0]
                exact mk.step est
              · rw [ew, ← hks0]
                exact hw
      · rintro σ H5 ⟨v5, v6, v7, mw, kw, kv2, rfl, k2, g1, g2, eK, mk, hi, hw, hwd⟩
        rw [List.length_map, List.drop_length] at hw hwd
        have hwd : walkD b lr [] [] = some (mw, kw) := hwd
        have e2 := KvK.keys eK
        obtain ⟨ms, hms0⟩ : ∃ ms, ms = mw.map (·.1) := ⟨_, rfl⟩
        obtain ⟨ks, hks0⟩ : ∃ ks, ks = kw.map (·.1) := ⟨_, rfl⟩
        rw [← hms0, ← hks0] at hw
        rw [← hks0] at e2
        have hw : walkM b lr 2 [] [] = .inr (ms, ks) := hw
        have sF := kS _ k2
        have lk2 : kv2.length = ks.length := by
          have := congrArg List.length e2
          rwa [List.length_map, List.length_map] at this
        refine ⟨.ref a2, rfl, _, .inr (.inr ⟨kv2, g2, rfl⟩), ?_⟩
        by_cases hks : ks = []
        case pos =>
          have e0 : kv2 = [] := List.length_eq_zero_iff.mp (by rw [lk2, hks]; rfl)
          rw [e0]
          refine ⟨.ref pl, rfl, pl, _, rfl, .inl (SqL.of (k2 _ _ npl1 npl2 hpl4)), _, _, rfl, rfl, ?_⟩
          refine bad_made XT fun d H' s' hd => ?_
          refine qe (lr.length + 1 + 1) ?_ d H' (sF.trans s') ?_
          · show (match walkM b lr 2 [] [] with
              | .inl i => some i
              | .inr mk => if mk.2 = [] then some (lr.length + 1 + 1) else none) = _
            rw [hw]
            exact if_pos hks
          · rw [List.length_map, List.length_cons] at hd
            exact hd
        case neg =>
          have e0 : kv2.isEmpty = false := by
            cases kv2 with
            | nil => exact absurd (List.length_eq_zero_iff.mp (by rw [← lk2]; rfl)) hks
            | cons a b => rfl
          rw [e0]
          refine ⟨.int b, rfl, .ref a1, rfl, .ref a2, rfl, Nat.le_trans (show 3 ≤ 1000 by decide) (by decide), fun t ht => ?_⟩
          have st := same_new (o := .tup [.int b, .ref a1, .ref a2]) ht
          refine qn ?_ t a1 a2 b mw kw kv2 _ (sF.trans st) (sA.free ha1) (sA.free (t1.free ha2)) upd_same (st _ _ g1) (st _ _ g2) (KvK.k2 (a1 := a1) (a2 := a2) (H := H5) (Same.k2 st) g1 g2 eK) rfl hwd
          show (match walkM b lr 2 [] [] with
            | .inl i => some i
            | .inr mk => if mk.2 = [] then some (lr.length + 1 + 1) else none) = _
          rw [hw]
          exact if_neg hks
end
end OG
set_option Elab.async false
set_option linter.all false
set_option maxRecDepth 100000
set_option maxHeartbeats 8000000
namespace OG
open PySem PySem.Spec PyProof.Rows L2
theorem putF_le (f : Str) (y : V) : ∀ fs : List (Str × V), (putF f y fs).length ≤ fs.length + 1
  | [] => Nat.le_refl _
  | p :: r => by
    unfold putF
    have ih := putF_le f y r
    split
    · exact Nat.le_succ _
    · rw [List.length_cons, List.length_cons]
      omega
theorem Same.put {H0 H : Hp} {x : Addr} {o : HO} (s : Same H0 H) (h : H0 x = none) : Same H0 (upd H x o) := fun b u e => by
  rw [upd_ne (ne_of_none e h)]
  exact s _ _ e
section
variable {P : Program} {w : World} {K : PySem.W.Frag} {mg : Str → Option Value} {base : Heap}
def spBookInit (T : Txt K mg) : Sp := fun vs H Q E => ∃ (x dx : Addr) (v : V) (H0 : Hp), vs = [.ref x, v] ∧ Same H0 H ∧ H0 x = none ∧ NearV H0 v ∧ H x = some (.ins T.c_Book dx []) ∧
  (∀ n : Nat, dueM v = some n → ∀ (d : Addr) (H' : Hp), Same H0 H' → H' d = some (.xd [("value", .int (n : Int))]) → E (.ref T.c_BadBook) (some d) H') ∧
  (dueM v = none → ∀ (fs : List (Str × V)) (H' : Hp), Same H0 H' → H' x = some (.ins T.c_Book dx fs) → fs.lookup ("text" : Str) = some v → Q .non H')
theorem ok_Book_init (T : Txt K mg) (XT : TxtX K mg T) : FnOk P w K mg base (L2.CX P w) 6 T.f_Book_init T.fd_Book_init ["self", "text"] (spBookInit T) := by
  refine T.F_Book_init.okX sc_Book_init (fun vs H Q E h => ?_) (fun cdv A outer s H vs Q E hr h => ?_)
  · obtain ⟨x, dx, v, H0, rfl, _⟩ := h
    rfl
  · obtain ⟨x, dx, v, H0, rfl, s0, hx0, hv0, hx, qe, qn⟩ := h
    refine ⟨_, (pss_cons (ps_if (pt_not (pt_val (pe_callB call_isi (by rfl) T.n_isinstance (by decide +kernel) (pa_cons (pv 1) (pa_cons (pe_bltn (v := .ty "str") (by rfl) T.n_str (by decide +kernel) rfl) pa_nil))))) (pss_one (ps_raise rfl (takes_of rfl rfl rfl rfl) (pmk_oex XT.exB XT.inB XT.tyI (ok_GateError_init T) (hr.mono (by decide)) T.b_GateError_init .nil pass0 (by rfl) T.g_BadBook (pa_cons pe_int pa_nil)))) pss_nil)
  (pss_cons (ps_asg (pe_call (ok_read_book T XT) (hr.mono (by decide)) (by rfl) T.g_read_book T.F_read_book.kp T.b_read_book .nil (passes_call (takes_of rfl rfl rfl rfl) (fun _ _ _ _ h => h)) (pa_cons (pv 1) pa_nil)) (pg_tup (by rfl) (pgs_cons (pg_name (i := 2) sc_Book_init.nd rfl (Or.inl rfl)) (pgs_cons (pg_name (i := 3) sc_Book_init.nd rfl (Or.inl rfl)) (pgs_cons (pg_name (i := 4) sc_Book_init.nd rfl (Or.inl rfl)) pgs_nil)))))
  (pss_cons (ps_fld (pv 0) (pv 1) rfl)
  (pss_cons (ps_fld (pv 0) (pv 2) rfl)
  (pss_cons (ps_fld (pv 0) (pe_callTy (call_tuple_dK rfl) (by rfl) T.n_tuple (by decide +kernel) (pa_cons (pv 3) pa_nil)) rfl)
  (pss_cons (ps_fld (pv 0) (pe_callTy (call_tuple_dK rfl) (by rfl) T.n_tuple (by decide +kernel) (pa_cons (pv 4) pa_nil)) rfl)
  (pss_cons (ps_fld (pv 0) (pv 3) rfl)
  (pss_one (ps_fld (pv 0) (pv 4) rfl))))))))), ?_⟩
    have hv := hv0.same s0
    obtain ⟨t, ty, kt⟩ := isi_ty (K := K) hv
    refine ⟨v, rfl, _, _, t, _, _, rfl, .ty _, ty, kt, ?_⟩
    refine ⟨_, rfl, ?_⟩
    by_cases hs : ∃ z, v = .str z
    case neg =>
      have e : dueM v = some 0 := by
        cases v <;> first | rfl | exact absurd ⟨_, rfl⟩ hs
      have e2 : isStr v = false := by
        cases v <;> first | rfl | exact absurd ⟨_, rfl⟩ hs
      rw [e2]
      refine bad_made XT fun d H' s' hd => ?_
      exact qe 0 e d H' (s0.trans s') hd
    case pos =>
      obtain ⟨z, rfl⟩ := hs
      have hz : z.length ≤ 900000 := hv
      refine iteF ?_
      dsimp only [tNext]
      refine ⟨.str z, rfl, z, rfl, hz, fun n hn d H' s' hd => qe n hn d H' (s0.trans s') hd, fun hn t0 a1 a2 b kv1 kv2 H1 s1 ht h1 h2 => ?_⟩
      refine ⟨t0, _, rfl, SqT.of ht, rfl, _, _, rfl, _, _, rfl, _, _, rfl, rfl, ?_⟩
      have hx1 := s1 _ _ hx
      have sA := s0.trans s1
      have nx : ∀ a o, H1 a = some (.dK o) → a ≠ x := fun a o e z => by
        rw [z, hx1] at e
        cases e
      have n1 := nx _ _ h1
      have n2 := nx _ _ h2
      obtain ⟨f1, hf1⟩ : ∃ f, f = putF "text" (V.str z) [] := ⟨_, rfl⟩
      have l1 : f1.length ≤ 1 := by rw [hf1]; exact putF_le _ _ []
      have t1 : f1.lookup ("text" : Str) = some (.str z) := by
        rw [hf1, lookup_putF]
        exact if_pos rfl
      refine ⟨.str z, rfl, .ref x, rfl, x, T.c_Book, dx, [], rfl, hx1, XT.cl, XT.na1, by show 0 < 1000; decide, ?_⟩
      rw [← hf1]
      obtain ⟨f2, hf2⟩ : ∃ f, f = putF "by" (V.int b) f1 := ⟨_, rfl⟩
      have l2 : f2.length ≤ 2 := by rw [hf2]; exact Nat.le_trans (putF_le _ _ _) (Nat.succ_le_succ l1)
      have t2 : f2.lookup ("text" : Str) = some (.str z) := by
        rw [hf2, lookup_putF, if_neg (by decide +kernel)]
        exact t1
      refine ⟨.int b, rfl, .ref x, rfl, x, T.c_Book, dx, _, rfl, upd_same, XT.cl, XT.na2, by omega, ?_⟩
      rw [← hf2]
      have k1 : ∀ {a : Addr} {o : List (Key × V)} {u1 u2 : HO}, H1 a = some (.dK o) → a ≠ x → upd (upd H1 x u1) x u2 a = some (.dK o) := fun {a o u1 u2} e n => by
        rw [upd_ne n, upd_ne n]
        exact e
      refine ⟨.ref a1, rfl, a1, kv1, rfl, k1 h1 n1, fun q1 hq1 => ?_⟩
      have hxq : upd (upd H1 x (.ins T.c_Book dx f1)) x (.ins T.c_Book dx f2) x = some (.ins T.c_Book dx f2) := upd_same
      have k2 := k1 (u1 := .ins T.c_Book dx f1) (u2 := .ins T.c_Book dx f2) h1 n1
      have k3 := k1 (u1 := .ins T.c_Book dx f1) (u2 := .ins T.c_Book dx f2) h2 n2
      have sB : Same H0 (upd (upd H1 x (.ins T.c_Book dx f1)) x (.ins T.c_Book dx f2)) := Same.put (Same.put sA hx0) hx0
      generalize upd (upd H1 x (.ins T.c_Book dx f1)) x (.ins T.c_Book dx f2) = H2 at *
      have sq := same_new (o := .tup (kv1.map fun kv => kV kv.1)) hq1
      have hxq := sq _ _ hxq
      have k2 := sq _ _ k2
      have k3 := sq _ _ k3
      have sB := sB.trans sq
      generalize upd H2 q1 (.tup (kv1.map fun kv => kV kv.1)) = H3 at *
      obtain ⟨f3, hf3⟩ : ∃ f, f = putF "marks" (V.ref q1) f2 := ⟨_, rfl⟩
      have l3 : f3.length ≤ 3 := by rw [hf3]; exact Nat.le_trans (putF_le _ _ _) (Nat.succ_le_succ l2)
      have t3 : f3.lookup ("text" : Str) = some (.str z) := by
        rw [hf3, lookup_putF, if_neg (by decide +kernel)]
        exact t2
      refine ⟨.ref x, rfl, x, T.c_Book, dx, _, rfl, hxq, XT.cl, XT.na3, by omega, ?_⟩
      rw [← hf3]
      refine ⟨.ref a2, rfl, a2, kv2, rfl, by rw [upd_ne n2]; exact k3, fun q2 hq2 => ?_⟩
      have sC := Same.put (o := .ins T.c_Book dx f3) sB hx0
      have hx3 : upd H3 x (.ins T.c_Book dx f3) x = some (.ins T.c_Book dx f3) := upd_same
      generalize upd H3 x (.ins T.c_Book dx f3) = H4 at *
      have sq2 := same_new (o := .tup (kv2.map fun kv => kV kv.1)) hq2
      have hx3 := sq2 _ _ hx3
      have sC := sC.trans sq2
      generalize upd H4 q2 (.tup (kv2.map fun kv => kV kv.1)) = H5 at *
      obtain ⟨f4, hf4⟩ : ∃ f, f = putF "kinds" (V.ref q2) f3 := ⟨_, rfl⟩
      have l4 : f4.length ≤ 4 := by rw [hf4]; exact Nat.le_trans (putF_le _ _ _) (Nat.succ_le_succ l3)
      have t4 : f4.lookup ("text" : Str) = some (.str z) := by
        rw [hf4, lookup_putF, if_neg (by decide +kernel)]
        exact t3
      refine ⟨.ref x, rfl, x, T.c_Book, dx, _, rfl, hx3, XT.cl, XT.na4, by omega, ?_⟩
      rw [← hf4]
      obtain ⟨f5, hf5⟩ : ∃ f, f = putF "_weight_by_mark" (V.ref a1) f4 := ⟨_, rfl⟩
      have l5 : f5.length ≤ 5 := by rw [hf5]; exact Nat.le_trans (putF_le _ _ _) (Nat.succ_le_succ l4)
      have t5 : f5.lookup ("text" : Str) = some (.str z) := by
        rw [hf5, lookup_putF, if_neg (by decide +kernel)]
        exact t4
      refine ⟨.ref a1, rfl, .ref x, rfl, x, T.c_Book, dx, _, rfl, upd_same, XT.cl, XT.na5, by omega, ?_⟩
      rw [← hf5]
      refine ⟨.ref a2, rfl, .ref x, rfl, x, T.c_Book, dx, _, rfl, upd_same, XT.cl, XT.na6, by omega, ?_⟩
      refine qn hn _ _ (Same.put (Same.put (Same.put sC hx0) hx0) hx0) upd_same ?_
      rw [lookup_putF, if_neg (by decide +kernel)]
      exact t5
end
end OG
set_option Elab.async false
set_option linter.all false
set_option maxRecDepth 100000
set_option maxHeartbeats 8000000
namespace OG
open PySem PySem.Spec PyProof.Rows L2
section
variable {P : Program} {w : World} {K : PySem.W.Frag} {mg : Str → Option Value} {base : Heap}
/-- a tuple, the very object, without a dict -/
def MkT (H : Hp) (t : Addr) (xs : List V) : Prop := ∃ o, H t = some (.frz o (.tup xs)) ∧ o.dict = none
theorem MkT.sq {K : PySem.W.Frag} {H : Hp} {t : Addr} {xs : List V} (h : MkT H t xs) : SqT K H t xs := by
  obtain ⟨o, e, _⟩ := h
  exact .inl (.inr ⟨o, e⟩)
/-- a book as it stands -/
def ObjAt (T : Txt K mg) (H : Hp) (x : Addr) (z : Str) (b : Int) (mw : List (Str × Int)) (kw : List (Str × List Int)) : Prop := ∃ (dx t1 t2 a1 a2 : Addr) (fs : List (Str × V)) (kv2 : List (Key × V)), H x = some (.ins T.c_Book dx fs) ∧ fs.length ≤ 10 ∧
  fs.lookup ("text" : Str) = some (.str z) ∧ fs.lookup ("by" : Str) = some (.int b) ∧ fs.lookup ("marks" : Str) = some (.ref t1) ∧ MkT H t1 ((mw.map (·.1)).map V.str) ∧ fs.lookup ("kinds" : Str) = some (.ref t2) ∧ MkT H t2 ((kw.map (·.1)).map V.str) ∧
  fs.lookup ("_weight_by_mark" : Str) = some (.ref a1) ∧ H a1 = some (.dK (kvM mw)) ∧ fs.lookup ("_worths_by_kind" : Str) = some (.ref a2) ∧ H a2 = some (.dK kv2) ∧ KvK H kv2 kw ∧ fs.lookup ("weight" : Str) = none ∧ fs.lookup ("worth" : Str) = none
theorem keyV (l : List Str) {α : Type} (kv : List (Key × α)) (h : kv.map (·.1) = l.map Sum.inr) : (kv.map fun p => kV p.1) = l.map V.str := by
  have e : (kv.map fun p => kV p.1) = (kv.map (·.1)).map kV := by
    rw [List.map_map]
    rfl
  rw [e, h, List.map_map]
  rfl
def spBookInitX (T : Txt K mg) : Sp := fun vs H Q E => ∃ (x dx : Addr) (v : V) (H0 : Hp), vs = [.ref x, v] ∧ Same H0 H ∧ H0 x = none ∧ NearV H0 v ∧ H x = some (.ins T.c_Book dx []) ∧
  (∀ n : Nat, dueM v = some n → ∀ (d : Addr) (H' : Hp), Same H0 H' → H' d = some (.xd [("value", .int (n : Int))]) → E (.ref T.c_BadBook) (some d) H') ∧
  (∀ z, v = .str z → wrongM z = none → ∀ (b : Int) (mw : List (Str × Int)) (kw : List (Str × List Int)) (H' : Hp), Same H0 H' → ObjAt T H' x z b mw kw → byM (Txt.split ((Txt.split z "\n").head?.getD "") " ") = some b → walkD b ((Txt.split z "\n").drop 1) [] [] = some (mw, kw) → Q .non H')
theorem ok_Book_init2 (T : Txt K mg) (XT : TxtX K mg T) : FnOk P w K mg base (L2.CX P w) 6 T.f_Book_init T.fd_Book_init ["self", "text"] (spBookInitX T) := by
  refine T.F_Book_init.okX sc_Book_init (fun vs H Q E h => ?_) (fun cdv A outer s H vs Q E hr h => ?_)
  · obtain ⟨x, dx, v, H0, rfl, _⟩ := h
    rfl
  · obtain ⟨x, dx, v, H0, rfl, s0, hx0, hv0, hx, qe, qn⟩ := h
    refine ⟨_, (pss_cons (ps_if (pt_not (pt_val (pe_callB call_isi (by rfl) T.n_isinstance (by decide +kernel) (pa_cons (pv 1) (pa_cons (pe_bltn (v := .ty "str") (by rfl) T.n_str (by decide +kernel) rfl) pa_nil))))) (pss_one (ps_raise rfl (takes_of rfl rfl rfl rfl) (pmk_oex XT.exB XT.inB XT.tyI (ok_GateError_init T) (hr.mono (by decide)) T.b_GateError_init .nil pass0 (by rfl) T.g_BadBook (pa_cons pe_int pa_nil)))) pss_nil)
  (pss_cons (ps_asg (pe_call (ok_read_book2 T XT) (hr.mono (by decide)) (by rfl) T.g_read_book T.F_read_book.kp T.b_read_book .nil (passes_call (takes_of rfl rfl rfl rfl) (fun _ _ _ _ h => h)) (pa_cons (pv 1) pa_nil)) (pg_tup (by rfl) (pgs_cons (pg_name (i := 2) sc_Book_init.nd rfl (Or.inl rfl)) (pgs_cons (pg_name (i := 3) sc_Book_init.nd rfl (Or.inl rfl)) (pgs_cons (pg_name (i := 4) sc_Book_init.nd rfl (Or.inl rfl)) pgs_nil)))))
  (pss_cons (ps_fld (pv 0) (pv 1) rfl)
  (pss_cons (ps_fld (pv 0) (pv 2) rfl)
  (pss_cons (ps_fld (pv 0) (pe_callTy (call_tuple_dKF rfl) (by rfl) T.n_tuple (by decide +kernel) (pa_cons (pv 3) pa_nil)) rfl)
  (pss_cons (ps_fld (pv 0) (pe_callTy (call_tuple_dKF rfl) (by rfl) T.n_tuple (by decide +kernel) (pa_cons (pv 4) pa_nil)) rfl)
  (pss_cons (ps_fld (pv 0) (pv 3) rfl)
  (pss_one (ps_fld (pv 0) (pv 4) rfl))))))))), ?_⟩
    have hv := hv0.same s0
    obtain ⟨t, ty, kt⟩ := isi_ty (K := K) hv
    refine ⟨v, rfl, _, _, t, _, _, rfl, .ty _, ty, kt, ?_⟩
    refine ⟨_, rfl, ?_⟩
    by_cases hs : ∃ z, v = .str z
    case neg =>
      have e : dueM v = some 0 := by
        cases v <;> first | rfl | exact absurd ⟨_, rfl⟩ hs
      have e2 : isStr v = false := by
        cases v <;> first | rfl | exact absurd ⟨_, rfl⟩ hs
      rw [e2]
      refine bad_made XT fun d H' s' hd => ?_
      exact qe 0 e d H' (s0.trans s') hd
    case pos =>
      obtain ⟨z, rfl⟩ := hs
      have hz : z.length ≤ 900000 := hv
      refine iteF ?_
      dsimp only [tNext]
      refine ⟨.str z, rfl, z, rfl, hz, fun n hn d H' s' hd => qe n hn d H' (s0.trans s') hd, fun hn t0 a1 a2 b mw kw kv2 H1 s1 na1 na2 ht h1 h2 eK hby hwd => ?_⟩
      refine ⟨t0, _, rfl, SqT.of ht, rfl, _, _, rfl, _, _, rfl, _, _, rfl, rfl, ?_⟩
      have hx1 := s1 _ _ hx
      have sA := s0.trans s1
      have nx : ∀ a o, H1 a = some (.dK o) → a ≠ x := fun a o e z => by
        rw [z, hx1] at e
        cases e
      have n1 := nx _ _ h1
      have n2 := nx _ _ h2
      obtain ⟨f1, hf1⟩ : ∃ f, f = putF "text" (V.str z) [] := ⟨_, rfl⟩
      have l1 : f1.length ≤ 1 := by rw [hf1]; exact putF_le _ _ []
      have t1 : f1.lookup ("text" : Str) = some (.str z) := by
        rw [hf1, lookup_putF]
        exact if_pos rfl
      refine ⟨.str z, rfl, .ref x, rfl, x, T.c_Book, dx, [], rfl, hx1, XT.cl, XT.na1, by show 0 < 1000; decide, ?_⟩
      rw [← hf1]
      obtain ⟨f2, hf2⟩ : ∃ f, f = putF "by" (V.int b) f1 := ⟨_, rfl⟩
      have l2 : f2.length ≤ 2 := by rw [hf2]; exact Nat.le_trans (putF_le _ _ _) (Nat.succ_le_succ l1)
      have t2 : f2.lookup ("text" : Str) = some (.str z) := by
        rw [hf2, lookup_putF, if_neg (by decide +kernel)]
        exact t1
      refine ⟨.int b, rfl, .ref x, rfl, x, T.c_Book, dx, _, rfl, upd_same, XT.cl, XT.na2, by omega, ?_⟩
      rw [← hf2]
      have k1 : ∀ {a : Addr} {o : List (Key × V)} {u1 u2 : HO}, H1 a = some (.dK o) → a ≠ x → upd (upd H1 x u1) x u2 a = some (.dK o) := fun {a o u1 u2} e n => by
        rw [upd_ne n, upd_ne n]
        exact e
      refine ⟨.ref a1, rfl, a1, kvM mw, rfl, k1 h1 n1, fun q1 ob1 hq1 hob1 => ?_⟩
      have hxq : upd (upd H1 x (.ins T.c_Book dx f1)) x (.ins T.c_Book dx f2) x = some (.ins T.c_Book dx f2) := upd_same
      have k2 := k1 (u1 := .ins T.c_Book dx f1) (u2 := .ins T.c_Book dx f2) h1 n1
      have k3 := k1 (u1 := .ins T.c_Book dx f1) (u2 := .ins T.c_Book dx f2) h2 n2
      have sB : Same H0 (upd (upd H1 x (.ins T.c_Book dx f1)) x (.ins T.c_Book dx f2)) := Same.put (Same.put sA hx0) hx0
      have kx2 : Kp x H1 (upd (upd H1 x (.ins T.c_Book dx f1)) x (.ins T.c_Book dx f2)) := fun b o n e => by
        rw [upd_ne n, upd_ne n]
        exact e
      generalize upd (upd H1 x (.ins T.c_Book dx f1)) x (.ins T.c_Book dx f2) = H2 at *
      have nq1 : q1 ≠ x := ne_of_none' hxq hq1
      have sq := same_new (o := .frz ob1 (.tup ((kvM mw).map fun kv => kV kv.1))) hq1
      have gq1 : (upd H2 q1 (.frz ob1 (.tup ((kvM mw).map fun kv => kV kv.1)))) q1 = some (.frz ob1 (.tup ((kvM mw).map fun kv => kV kv.1))) := upd_same
      have kx3 := kx2.trans (Same.kp sq)
      have hxq := sq _ _ hxq
      have k2 := sq _ _ k2
      have k3 := sq _ _ k3
      have sB := sB.trans sq
      generalize upd H2 q1 (.frz ob1 (.tup ((kvM mw).map fun kv => kV kv.1))) = H3 at *
      obtain ⟨f3, hf3⟩ : ∃ f, f = putF "marks" (V.ref q1) f2 := ⟨_, rfl⟩
      have l3 : f3.length ≤ 3 := by rw [hf3]; exact Nat.le_trans (putF_le _ _ _) (Nat.succ_le_succ l2)
      have t3 : f3.lookup ("text" : Str) = some (.str z) := by
        rw [hf3, lookup_putF, if_neg (by decide +kernel)]
        exact t2
      refine ⟨.ref x, rfl, x, T.c_Book, dx, _, rfl, hxq, XT.cl, XT.na3, by omega, ?_⟩
      rw [← hf3]
      refine ⟨.ref a2, rfl, a2, kv2, rfl, by rw [upd_ne n2]; exact k3, fun q2 ob2 hq2 hob2 => ?_⟩
      have sC := Same.put (o := .ins T.c_Book dx f3) sB hx0
      have hx3 : upd H3 x (.ins T.c_Book dx f3) x = some (.ins T.c_Book dx f3) := upd_same
      have kx4 := kx3.trans (kp_self (p := x) (H := H3) (o := .ins T.c_Book dx f3))
      have gq1 := kp_self (p := x) (H := H3) (o := .ins T.c_Book dx f3) q1 _ nq1 gq1
      generalize upd H3 x (.ins T.c_Book dx f3) = H4 at *
      have nq2 : q2 ≠ x := ne_of_none' hx3 hq2
      have gq2 : (upd H4 q2 (.frz ob2 (.tup (kv2.map fun kv => kV kv.1)))) q2 = some (.frz ob2 (.tup (kv2.map fun kv => kV kv.1))) := upd_same
      have sq2 := same_new (o := .frz ob2 (.tup (kv2.map fun kv => kV kv.1))) hq2
      have hx3 := sq2 _ _ hx3
      have sC := sC.trans sq2
      have kx5 := kx4.trans (Same.kp sq2)
      have gq1 := sq2 _ _ gq1
      generalize upd H4 q2 (.frz ob2 (.tup (kv2.map fun kv => kV kv.1))) = H5 at *
      obtain ⟨f4, hf4⟩ : ∃ f, f = putF "kinds" (V.ref q2) f3 := ⟨_, rfl⟩
      have l4 : f4.length ≤ 4 := by rw [hf4]; exact Nat.le_trans (putF_le _ _ _) (Nat.succ_le_succ l3)
      have t4 : f4.lookup ("text" : Str) = some (.str z) := by
        rw [hf4, lookup_putF, if_neg (by decide +kernel)]
        exact t3
      refine ⟨.ref x, rfl, x, T.c_Book, dx, _, rfl, hx3, XT.cl, XT.na4, by omega, ?_⟩
      rw [← hf4]
      obtain ⟨f5, hf5⟩ : ∃ f, f = putF "_weight_by_mark" (V.ref a1) f4 := ⟨_, rfl⟩
      have l5 : f5.length ≤ 5 := by rw [hf5]; exact Nat.le_trans (putF_le _ _ _) (Nat.succ_le_succ l4)
      have t5 : f5.lookup ("text" : Str) = some (.str z) := by
        rw [hf5, lookup_putF, if_neg (by decide +kernel)]
        exact t4
      refine ⟨.ref a1, rfl, .ref x, rfl, x, T.c_Book, dx, _, rfl, upd_same, XT.cl, XT.na5, by omega, ?_⟩
      rw [← hf5]
      refine ⟨.ref a2, rfl, .ref x, rfl, x, T.c_Book, dx, _, rfl, upd_same, XT.cl, XT.na6, by omega, ?_⟩
      have f6 : ∀ f : Str, (putF "_worths_by_kind" (V.ref a2) f5).lookup f = if f = "_worths_by_kind" then some (V.ref a2) else if f = "_weight_by_mark" then some (V.ref a1) else if f = "kinds" then some (V.ref q2) else if f = "marks" then some (V.ref q1) else if f = "by" then some (V.int b) else if f = "text" then some (V.str z) else ([] : List (Str × V)).lookup f := fun f => by
        rw [lookup_putF, hf5, lookup_putF, hf4, lookup_putF, hf3, lookup_putF, hf2, lookup_putF, hf1, lookup_putF]
      have e2 := keyV _ _ (KvK.keys eK)
      have e1 := keyV _ _ (kvM_keys mw)
      rw [e2] at gq2
      rw [e1] at gq1
      obtain ⟨F, hF⟩ : ∃ F, F = upd (upd (upd H5 x (.ins T.c_Book dx f4)) x (.ins T.c_Book dx f5)) x (.ins T.c_Book dx (putF "_worths_by_kind" (V.ref a2) f5)) := ⟨_, rfl⟩
      rw [← hF]
      have kF : Kp x H5 F := fun b o n e => by
        rw [hF, upd_ne n, upd_ne n, upd_ne n]
        exact e
      have sF : Same H0 F := by
        rw [hF]
        exact Same.put (Same.put (Same.put sC hx0) hx0) hx0
      have xF : F x = some (.ins T.c_Book dx (putF "_worths_by_kind" (V.ref a2) f5)) := by rw [hF, upd_same]
      have kAll := kx5.trans kF
      have n1 : ∀ {a : Addr} {o : HO}, H1 a = some o → (∀ f, o ≠ .ins T.c_Book dx f) → a ≠ x := fun {a o} e n z => by
        rw [z, hx1] at e
        exact n _ (Option.some.inj e).symm
      have fin := fun a o e => kAll a o e
      refine qn z rfl hn b mw kw F sF ⟨dx, q1, q2, a1, a2, _, kv2, xF, Nat.le_trans (putF_le _ _ _) (by omega), ?_, ?_, ?_, ⟨ob1, kF _ _ nq1 gq1, hob1⟩, ?_, ⟨ob2, kF _ _ nq2 gq2, hob2⟩, ?_, kAll _ _ (nx _ _ h1) h1, ?_, kAll _ _ (nx _ _ h2) h2, ?_⟩ hby hwd
      · rw [f6, if_neg (by decide +kernel), if_neg (by decide +kernel), if_neg (by decide +kernel), if_neg (by decide +kernel), if_neg (by decide +kernel), if_pos rfl]
      · rw [f6, if_neg (by decide +kernel), if_neg (by decide +kernel), if_neg (by decide +kernel), if_neg (by decide +kernel), if_pos rfl]
      · rw [f6, if_neg (by decide +kernel), if_neg (by decide +kernel), if_neg (by decide +kernel), if_pos rfl]
      · rw [f6, if_neg (by decide +kernel), if_neg (by decide +kernel), if_pos rfl]
      · rw [f6, if_neg (by decide +kernel), if_pos rfl]
      · rw [f6, if_pos rfl]
      · have key : ∀ {kv : List (Key × V)} {kw : List (Str × List Int)}, KvK H1 kv kw → KvK F kv kw := by
          intro kv kw h
          induction h with
          | nil => exact .nil
          | cons h _ ih =>
            obtain ⟨e, t, et, ht'⟩ := h
            exact .cons ⟨e, t, et, kAll _ _ (n1 ht' (fun f z => by cases z)) ht'⟩ ih
        refine ⟨key eK, ?_, ?_⟩
        · rw [f6, if_neg (by decide +kernel), if_neg (by decide +kernel), if_neg (by decide +kernel), if_neg (by decide +kernel), if_neg (by decide +kernel), if_neg (by decide +kernel)]
          rfl
        · rw [f6, if_neg (by decide +kernel), if_neg (by decide +kernel), if_neg (by decide +kernel), if_neg (by decide +kernel), if_neg (by decide +kernel), if_neg (by decide +kernel)]
          rfl
end
end OG
set_option Elab.async false
set_option linter.all false
set_option maxRecDepth 100000
set_option maxHeartbeats 8000000
namespace OG
open PySem PySem.Spec PyProof.Rows L2
section
variable {P : Program} {w : World} {K : PySem.W.Frag} {mg : Str → Option Value} {base : Heap}
def spLen (T : Txt K mg) : Sp := fun vs H Q _ => ∃ (x : Addr) (z : Str) (b : Int) (mw : List (Str × Int)) (kw : List (Str × List Int)), vs = [.ref x] ∧ ObjAt T H x z b mw kw ∧ Q (.int (mw.length : Int)) H
theorem ok_Book_len (T : Txt K mg) (XT : TxtX K mg T) : FnOk P w K mg base (L2.CX P w) 1 T.f_Book_len T.fd_Book_len ["self"] (spLen T) := by
  refine T.F_Book_len.okX sc_Book_len (fun vs H Q E h => ?_) (fun cdv A outer s H vs Q E hr h => ?_)
  · obtain ⟨x, z, b, mw, kw, rfl, _⟩ := h
    rfl
  · obtain ⟨x, z, b, mw, kw, rfl, hX, q⟩ := h
    refine ⟨_, (pss_one (ps_ret (pe_callB call_len_seq (by rfl) T.n_len PySem.boot_len (pa_cons (pe_fld (pv 0) rfl) pa_nil)))), ?_⟩
    obtain ⟨dx, t1, t2, a1, a2, fs, kv2, hx, _, f1, f2, f3, g1, f4, g2, f5, g3, f6, g4, g5, n1, n2⟩ := hX
    refine ⟨.ref x, rfl, x, T.c_Book, dx, fs, _, rfl, hx, XT.cl, XT.na3, f3, ?_⟩
    refine ⟨t1, _, rfl, .inr g1.sq, ?_⟩
    rw [List.length_map, List.length_map]
    exact q
def inM (v : V) (ms : List Str) : Bool := isStr v && inV v (ms.map V.str)
def spHas (T : Txt K mg) : Sp := fun vs H Q _ => ∃ (x : Addr) (v : V) (z : Str) (b : Int) (mw : List (Str × Int)) (kw : List (Str × List Int)), vs = [.ref x, v] ∧ NearV H v ∧ ObjAt T H x z b mw kw ∧ Q (.bl (inM v (mw.map (·.1)))) H
theorem ok_Book_contains (T : Txt K mg) (XT : TxtX K mg T) : FnOk P w K mg base (L2.CX P w) 1 T.f_Book_contains T.fd_Book_contains ["self", "value"] (spHas T) := by
  refine T.F_Book_contains.okX sc_Book_contains (fun vs H Q E h => ?_) (fun cdv A outer s H vs Q E hr h => ?_)
  · obtain ⟨x, v, z, b, mw, kw, rfl, _⟩ := h
    rfl
  · obtain ⟨x, v, z, b, mw, kw, rfl, hv, hX, q⟩ := h
    refine ⟨_, (pss_one (ps_ret (pe_and (pe_callB call_isi (by rfl) T.n_isinstance (by decide +kernel) (pa_cons (pv 1) (pa_cons (pe_bltn (v := .ty "str") (by rfl) T.n_str (by decide +kernel) rfl) pa_nil))) (pe_one (pe_cmpR op_in_seq (pv 1) (pe_fld (pv 0) rfl) rfl))))), ?_⟩
    obtain ⟨dx, t1, t2, a1, a2, fs, kv2, hx, _, f1, f2, f3, g1, f4, g2, f5, g3, f6, g4, g5, n1, n2⟩ := hX
    obtain ⟨t, ty, kt⟩ := isi_ty (K := K) hv
    refine ⟨v, rfl, _, _, t, _, _, rfl, .ty _, ty, kt, ?_⟩
    refine ⟨_, rfl, ?_⟩
    by_cases hs : ∃ s, v = .str s
    case neg =>
      have e2 : isStr v = false := by
        cases v <;> first | rfl | exact absurd ⟨_, rfl⟩ hs
      unfold inM at q
      rw [e2] at q ⊢
      exact q
    case pos =>
      obtain ⟨s, rfl⟩ := hs
      refine ⟨.str s, rfl, .ref x, rfl, x, T.c_Book, dx, fs, _, rfl, hx, XT.cl, XT.na3, f3, ?_⟩
      exact ⟨t1, _, rfl, .inr g1.sq, rfl, flat_strs _, q⟩
end
end OG
set_option Elab.async false
set_option linter.all false
set_option maxRecDepth 100000
set_option maxHeartbeats 4000000
namespace OGX
open PySem PySem.Spec PyProof.Rows L2
/-- what a value shows, by depth -/
def Leaf : V → PyData → Prop
  | .non, d => d = .none
  | .bl b, d => d = .bool b
  | .int i, d => d = .int i
  | .str z, d => d = .str z
  | _, _ => False
def Rds (K : PySem.W.Frag) (H : Hp) : Nat → V → PyData → Prop
  | 0, v, d => Leaf v d
  | n + 1, v, d => Leaf v d ∨ ∃ (a : Addr) (xs : List V) (ds : List PyData), v = .ref a ∧ Paired (Rds K H n) xs ds ∧ ((H a = some (.lst xs) ∧ d = .list ds) ∨ (SqT K H a xs ∧ d = .tuple ds))
section
variable {X : Cx} {pins : List (Addr × Obj)} {σ : L2.St} {H : Hp} {s : Shared}
theorem leaf_reads {h : Heap} : ∀ {v : V} {d : PyData} {u : Value}, Leaf v d → RelV v u → ∃ as, Reads h u d as
  | .non, _, _, e, r => by
    cases e
    cases (show _ = Value.none from r)
    exact ⟨_, .none⟩
  | .bl b, _, _, e, r => by
    cases e
    cases (show _ = Value.bool b from r)
    exact ⟨_, .bool b⟩
  | .int i, _, _, e, r => by
    cases e
    obtain ⟨t, q⟩ := (show ∃ t, _ = Value.int i t from r)
    cases q
    exact ⟨_, .int i t⟩
  | .str z, _, _, e, r => by
    cases e
    obtain ⟨t, q⟩ := (show ∃ t, _ = Value.str z t from r)
    cases q
    exact ⟨_, .str z t⟩
theorem all_reads {h : Heap} {R : V → PyData → Prop} (one : ∀ v d u, R v d → RelV v u → ∃ as, Reads h u d as) : ∀ {xs : List V} {ds : List PyData} {us : List Value}, Paired R xs ds → Vals xs us → ∃ as, ReadsAll h us ds as
  | _, _, _, .nil, .nil => ⟨_, .nil⟩
  | _, _, _, .cons p q, .cons r t => by
    obtain ⟨a1, h1⟩ := one _ _ _ p r
    obtain ⟨a2, h2⟩ := all_reads one q t
    exact ⟨_, .cons h1 h2⟩
theorem reads_of (I : Inv X pins σ H s) : ∀ (n : Nat) (v : V) (d : PyData) (u : Value), Rds X.K H n v d → RelV v u → ∃ as, Reads s.heap u d as
  | 0, _, _, _, e, r => leaf_reads e r
  | n + 1, v, d, u, e, r => by
    rcases e with e | ⟨a, xs, ds, rfl, p, ⟨ha, rfl⟩ | ⟨ha, rfl⟩⟩
    · exact leaf_reads e r
    · cases (show u = Value.ref a from r)
      obtain ⟨_, its, k, rv, e⟩ := (show ObjOk X.prog X.w H s.heap a (.lst xs) from I.hok a _ ha)
      obtain ⟨as, ra⟩ := all_reads (reads_of I n) p rv
      exact ⟨_, .list e rfl rfl ra⟩
    · cases (show u = Value.ref a from r)
      obtain ⟨its, rv, ⟨o, h1, h2, k, h3⟩, _⟩ := I.tuple ha
      obtain ⟨as, ra⟩ := all_reads (reads_of I n) p rv
      exact ⟨_, .tuple h1 h2 h3 ra⟩
/-- repr of what reads as data -/
def rRepr (K : PySem.W.Frag) : List V → Hp → VK → Prop := fun xs H Q => ∃ (v : V) (n : Nat) (d : PyData), xs = [v] ∧ Rds K H n v d ∧ d.showable = true ∧ d.hasDict = false ∧ d.depth ≤ 60 ∧ d.shown.length ≤ sizeLine ∧ Q (.str d.shown) H
theorem repr_go {X : Cx} {pins : List (Addr × Obj)} {σ : L2.St} {H : Hp} {s : Shared} {Q : VK} {u : Value} {d : PyData} {as : List Addr} (hg : X.A.guards = some []) (hu : X.A.units + 64 < cLine) (I : Inv X pins σ H s) (R : Reads s.heap u d as)
    (hs : d.showable = true) (hd : d.hasDict = false) (hp : d.depth ≤ 60) (hz : d.shown.length ≤ sizeLine) (q : Q (.str d.shown) H) : wpAny (model X.prog X.w) X.A (call (.builtin "repr") [u]) (EP X pins σ Q) X.xe s := by
  have back : ∀ t' : Nat, EP X pins σ Q (.str d.shown s.toks) { s with toks := t' } := fun t' => ⟨.str d.shown, H, I.tok _, ⟨_, rfl⟩, q⟩
  have far : ∀ {a : Addr}, Reads s.heap (.ref a) d as → wpAny (model X.prog X.w) X.A (call (.builtin "repr") [.ref a]) (EP X pins σ Q) X.xe s := fun {a} R =>
    repr_of_reads' R hs (PyData.noDict_hsm hd) hg (by omega) (fun _ _ z => z) (fun h' t tk k => ⟨.str d.shown, H, I.kept k, ⟨_, rfl⟩, q⟩) hz
  cases R with
  | none =>
    rw [PyData.shown_none] at back
    exact PySem.P.repr_of_none (back _)
  | bool b =>
    rw [PyData.shown_bool] at back
    refine PySem.P.repr_of_bool ?_
    cases b <;> exact back _
  | int i t =>
    rw [PyData.shown_int] at back
    exact PySem.P.repr_of_int (of_decide_eq_true hs) (back _)
  | str x t =>
    rw [PyData.shown_str] at back hz
    exact PySem.P.repr_of_str (back _) hz
  | list h1 h2 h3 h4 => exact far (.list h1 h2 h3 h4)
  | tuple h1 h2 h3 h4 => exact far (.tuple h1 h2 h3 h4)
  | dict h1 h2 h3 h4 h5 => exact far (.dict h1 h2 h3 h4 h5)
theorem call_reprD (hg : X.A.guards = some []) (hu : X.A.units + 64 < cLine) : CallR X (.builtin "repr") (rRepr X.K) := by
  intro pins s σ H xs us Q I r h
  obtain ⟨v, n, d, rfl, e, hs, hd, hp, hz, q⟩ := h
  obtain ⟨u, rfl, ru⟩ := vals1 r
  obtain ⟨as, R⟩ := reads_of I n v d u e ru
  exact repr_go hg hu I R hs hd hp hz q
end
section
variable {X : Cx} {CX : CXT} {k : Nat} {f C : Addr} {fd : FuncData} {ps : List Str} {sp : Sp} {E : XK}
/-- an own method called by the interpreter, under a builtin -/
theorem run_own {A : Around} {pins : List (Addr × Obj)} {σ : L2.St} {H : Hp} {s : Shared} {Q : VK} {us : List Value} {vs : List V} (F : FnOk X.prog X.w X.K X.mg X.base CX k f fd ps sp) (hr : Room k A) (hf : A.frames = X.A.frames) (hb : Binds X.K fd ps []) (hx : Passes CX X E)
    (I : Inv X pins σ H s) (r : Vals vs us) (h : sp vs H Q E) : wpAny (model X.prog X.w) A (call (.ref f) us) (EP X pins σ Q) X.xe s := by
  have hl : us.length = ps.length := by rw [← r.length]; exact F.len _ _ _ _ h
  have e0 := I.env0
  have e1 : Env0 X.prog X.w X.K X.mg X.base A X.stack s H := ⟨by rw [hf]; exact e0.frames, e0.mod, e0.bs, e0.bsz, e0.funs, e0.frf, e0.hok, e0.bare⟩
  have b := hb s us I.kIn (by rw [List.append_nil]; exact hl)
  rw [List.append_nil] at b
  refine wpAny_call (codeAny_mono (F.run A X.stack s H ⟨us, []⟩ us vs Q E hr e1 b r h) fun z s' hq => ?_)
  rcases z with e | fl
  · exact hx pins σ H s e s' I hq
  · rcases fl with _ | _ | _ | u
    all_goals first | exact I.after hq | exact hq.elim
/-- len(o), o with an own __len__ -/
theorem call_lenOwn (F : FnOk X.prog X.w X.K X.mg X.base CX k f fd ps sp) (hr : Room (k + 1) X.A) (hs : PySem.W.findIn X.K (.ref C) "__len__" = some (some (.ref f))) (hf : PySem.W.isFn X.K (.ref f) = true) (hb : Binds X.K fd ps []) (hx : Passes CX X E) :
    CallR X (.builtin "len") (fun xs H Q => ∃ (x dx : Addr) (fs : List (Str × V)), xs = [.ref x] ∧ H x = some (.ins C dx fs) ∧ sp [.ref x] H (fun v H' => ∃ n : Int, v = .int n ∧ 0 ≤ n ∧ n < 2 ^ 63 ∧ Q (.int n) H') E) := by
  intro pins s σ H xs us Q I r h
  obtain ⟨x, dx, fs, rfl, hx0, q⟩ := h
  obtain ⟨u, rfl, ru⟩ := vals1 r
  cases ru
  obtain ⟨mA, J, _⟩ := ins_get I.hok hx0
  obtain ⟨od, J, _⟩ := J.look
  obtain ⟨m, hF⟩ := I.fr
  refine PySem.W.len_K hF I.ok.mod.kin J hs hf (wpAny_mono (run_own (A := X.A.in1) F hr.in1 rfl hb hx I (.cons (show L2.RelV (.ref x) (Value.ref x) from rfl) .nil) q) (fun v s' z => ?_) fun _ _ z => z)
  obtain ⟨y, H', I', ry, n, rfl, n0, n1, q'⟩ := z
  obtain ⟨t, rfl⟩ := ry
  exact ⟨⟨n0, n1⟩, .int n, H', I'.tok _, ⟨_, rfl⟩, q'⟩
/-- v in o, o with an own __contains__ -/
def rInO (C : Addr) (sp : Sp) (E : XK) (neg : Bool) : R2 := fun x y H Q => ∃ (a dx : Addr) (fs : List (Str × V)), y = .ref a ∧ H a = some (.ins C dx fs) ∧ sp [.ref a, x] H (fun v H' => ∃ b, v = .bl b ∧ Q (.bl (if neg = true then !b else b)) H') E
theorem op_inOwn (F : FnOk X.prog X.w X.K X.mg X.base CX k f fd ps sp) (hr : Room k X.A) (hs : PySem.W.findIn X.K (.ref C) "__contains__" = some (some (.ref f))) (hf : PySem.W.isFn X.K (.ref f) = true) (hb : Binds X.K fd ps []) (hx : Passes CX X E) :
    OpR X (compareOp .In) (rInO C sp E false) := by
  intro pins s σ H x y v u Q I rx ry h
  obtain ⟨a, dx, fs, rfl, hx0, q⟩ := h
  cases ry
  obtain ⟨mA, J, _⟩ := ins_get I.hok hx0
  obtain ⟨od, J, _⟩ := J.look
  obtain ⟨m, hF⟩ := I.fr
  refine PySem.W.in_K hF I.ok.mod.kin J hs hf (wpAny_mono (run_own F hr rfl hb hx I (.cons (show L2.RelV (.ref a) (Value.ref a) from rfl) (.cons rx .nil)) q) (fun v s' z => ?_) fun _ _ z => z)
  obtain ⟨y, H', I', ry, b, rfl, q'⟩ := z
  cases ry
  exact wpAny_truthy_bool ⟨.bl b, H', I', rfl, q'⟩
theorem op_notInOwn (F : FnOk X.prog X.w X.K X.mg X.base CX k f fd ps sp) (hr : Room k X.A) (hs : PySem.W.findIn X.K (.ref C) "__contains__" = some (some (.ref f))) (hf : PySem.W.isFn X.K (.ref f) = true) (hb : Binds X.K fd ps []) (hx : Passes CX X E) :
    OpR X (compareOp .NotIn) (rInO C sp E true) := by
  intro pins s σ H x y v u Q I rx ry h
  obtain ⟨a, dx, fs, rfl, hx0, q⟩ := h
  cases ry
  obtain ⟨mA, J, _⟩ := ins_get I.hok hx0
  obtain ⟨od, J, _⟩ := J.look
  obtain ⟨m, hF⟩ := I.fr
  refine PySem.W.notIn_K hF I.ok.mod.kin J hs hf (wpAny_mono (run_own F hr rfl hb hx I (.cons (show L2.RelV (.ref a) (Value.ref a) from rfl) (.cons rx .nil)) q) (fun v s' z => ?_) fun _ _ z => z)
  obtain ⟨y, H', I', ry, b, rfl, q'⟩ := z
  cases ry
  exact wpAny_truthy_bool ⟨.bl (!b), H', I', rfl, q'⟩
/-- o == v, o with an own __eq__, v another such object or a text -/
def rEqO (K : PySem.W.Frag) (C : Addr) (sp : Sp) (E : XK) : R2 := fun x y H Q => ∃ (a dx : Addr) (fs : List (Str × V)), x = .ref a ∧ H a = some (.ins C dx fs) ∧ ((∃ (b dy : Addr) (gs : List (Str × V)), y = .ref b ∧ H b = some (.ins C dy gs)) ∨ ((∃ z, y = .str z) ∧ PySem.W.notFirst K C (.type "str") = true)) ∧
  sp [.ref a, y] H (fun v H' => ∃ b, v = .bl b ∧ Q (.bl b) H') E
theorem op_eqOwn (F : FnOk X.prog X.w X.K X.mg X.base CX k f fd ps sp) (hr : Room k X.A) (hs : PySem.W.findIn X.K (.ref C) "__eq__" = some (some (.ref f))) (hf : PySem.W.isFn X.K (.ref f) = true) (hb : Binds X.K fd ps []) (hx : Passes CX X E) :
    OpR X (compareOp .Eq) (rEqO X.K C sp E) := by
  intro pins s σ H x y v u Q I rx ry h
  obtain ⟨a, dx, fs, rfl, hx0, hy, q⟩ := h
  cases rx
  obtain ⟨mA, J, _⟩ := ins_get I.hok hx0
  obtain ⟨od, J, _⟩ := J.look
  obtain ⟨m, hF⟩ := I.fr
  have fin : ∀ tb, PySem.W.Looks (model X.prog X.w) s.heap (typeOf u) tb → PySem.W.notFirst X.K C tb = true → wpAny (model X.prog X.w) X.A (compareOp .Eq (.ref a) u) (EP X pins σ Q) X.xe s := fun tb ht hn =>
    PySem.W.cmp_K (op := .Eq) hr.units0 hF I.ok.mod.kin J ht hn hs hf (wpAny_mono (run_own F hr rfl hb hx I (.cons (show L2.RelV (.ref a) (Value.ref a) from rfl) (.cons ry .nil)) q) (fun v s' z => by
      obtain ⟨y, H', I', ry, b, rfl, q'⟩ := z
      cases ry
      exact ⟨.bl b, H', I', rfl, q'⟩) fun _ _ z => z)
  rcases hy with ⟨b, dy, gs, rfl, hb0⟩ | ⟨⟨z, rfl⟩, hn⟩
  · cases ry
    obtain ⟨mB, J', _⟩ := ins_get I.hok hb0
    obtain ⟨od', J', _⟩ := J'.look
    exact fin _ J'.type (by simp [PySem.W.notFirst])
  · obtain ⟨t, rfl⟩ := ry
    exact fin _ (PySem.W.Looks.of_pure rfl) hn
end
section
variable {X : Cx} {o e : Expr} {es : List Expr} {to : TE} {t : TA} {name : Str} {apos cpos : Pos} {id : String} {r : V → List V → Hp → VK → Prop}
/-- o.name(e, ..), o a tuple that stands as the very object -/
def tTupF (r : V → List V → Hp → VK → Prop) (to : TE) (t : TA) : TE := fun σ H Q => to σ H fun x H1 => (∃ (p : Addr) (ob : Obj) (ys : List V), x = .ref p ∧ H1 p = some (.frz ob (.tup ys)) ∧ ob.dict = none) ∧ t σ H1 fun xs H2 => r x xs H2 Q
theorem pe_tupF (pa : PlainAttrs "tuple") (slot : Slot "tuple" name id) (ty : typeOf (.builtin id) = pure (.type "method_descriptor")) (hm : MtR X id r) (ho : PE X o to) (ha : PA X (e :: es) t) (hbase : attributeBase o name X.env (eval o X.env) = eval o X.env := by rfl)
    (few : ((backTo cpos (starEach (e :: es) X.env)).all (fun x => !x.1) && (backToKw cpos (keywordEach [] X.env)).all (fun x => x.1.isSome) && decide ((e :: es).length + ([] : List Keyword).length + (if ([] : List Keyword).isEmpty then 0 else 1) < 30)) = true := by rfl)
    (line : (apos.endLine == cpos.line) = true := by rfl) (st : starEach (e :: es) X.env = (false, eval e X.env) :: starEach es X.env := by rfl) (pl : (backTo cpos (starEach es X.env)).any (·.1) = false := by rfl) :
    PE X (.Call (.Attribute o name apos) (e :: es) [] cpos) (tTupF r to t) := by
  refine ⟨fun pins s σ H Q I h => wpAny_Call_method_late hbase few line rfl (thn (ho.run pins s σ H _ I h) ?_)⟩
  rintro v s1 ⟨x, H1, I1, rx, ⟨p, ob, ys, rfl, hp, hd⟩, q⟩
  cases (show v = Value.ref p from rx)
  obtain ⟨g, _, _, _, ob', g1, g2, _⟩ := (show ObjOk X.prog X.w H1 s1.heap p (.frz ob (.tup ys)) from I1.hok p _ hp)
  refine ⟨"tuple", id, pa, slot, ty, ⟨ob', g1, g2⟩, fun a z => ?_, ?_⟩
  · cases z
    exact ⟨ob, g, hd⟩
  · have A := ha.run cpos pins s1 σ H1 _ I1 q
    rw [st] at A ⊢
    refine Calls.callWith_builtin (by show (false || (backTo cpos (starEach es X.env)).any (·.1)) = false; rw [pl] <;> rfl) (Calls.evalArgs_plain ?_)
    exact thn A fun us s2 ⟨vs, H2, I2, r2, q2⟩ => hm pins s2 σ H2 (.ref p) vs (.ref p) us Q I2 rfl r2 q2
end
end OGX
set_option Elab.async false
set_option linter.all false
set_option maxRecDepth 100000
set_option maxHeartbeats 4000000
namespace OGX
open PySem PySem.Spec PyProof.Rows L2
section
variable {prog : Program} {w : World} {A : Around} {E : Value → Shared → Prop} {s : Shared} {K : PySem.W.Frag} {x y C f : Addr} {ox oy : Obj} {od od' : Option Obj}
theorem ne_checked {Q : Unit → Shared → Prop} (KX : K.In s.heap) (J : PySem.W.InstAt s.heap x ox C od) (hob : PySem.W.subIn K (.ref C) (.type "object") = some true) (q : Q () s) :
    wpAny (model prog w) A (checkBuiltinCall "object.__ne__" ⟨[.ref x, .ref y], []⟩) Q E s := by
  simp only [checkBuiltinCall, F.cmpKind_ne, F.cmpSplit_ne]
  refine wpAny_bind ?_
  unfold isInstance
  refine wpAny_bind (J.type.here ?_)
  refine (PySem.W.looks_subIn KX hob).here ?_
  have ha := F.cmpArgs_ne (.ref x) (.ref y)
  rw [if_neg (show ¬ (!true) = true from fun z => by cases z)]
  unfold argsOk at ha
  split at ha
  · rename_i sig e
    rw [e]
    show wpAny _ _ (Bind.checkArgs "object.__ne__" sig ⟨[.ref x, .ref y], []⟩) Q E s
    rw [show Bind.checkArgs "object.__ne__" sig ⟨[.ref x, .ref y], []⟩ = pure () from ha]
    exact wpAny_pure q
  · rename_i e
    split
    · rename_i sig e2
      first
        | exact absurd e2 (by intro z; simp_all)
        | (rw [e2] at e; cases e)
    · exact wpAny_pure q
theorem ne_builtin {Q : Value → Shared → Prop} (KX : K.In s.heap) (J : PySem.W.InstAt s.heap x ox C od) (hob : PySem.W.subIn K (.ref C) (.type "object") = some true) (heq : PySem.W.findIn K (.ref C) "__eq__" = some (some (.ref f))) (hf : PySem.W.isFn K (.ref f) = true) (hu : A.units + 1 < cLine)
    (h : wpAny (model prog w) A.in1 (call (.ref f) [.ref x, .ref y]) (fun v s' => ∃ b, v = .bool b ∧ Q (.bool (!b)) s') E s) :
    wpAny (model prog w) A (call (.builtin "object.__ne__") [.ref x, .ref y]) Q E s := by
  refine wpAny_call (codeAny_call_builtin F.cmp_object.ne.plain F.cmpEntry_ne (ne_checked KX J hob ?_))
  unfold Builtin.«object.__ne__»
  repeat (first
    | with_reducible refine wpAny_cRoomFor hu ?_
    | (refine wpAny_bind (m := callSpecialIfBound? (.ref x) (Str.ofString "__eq__") [.ref y]) (PySem.W.ifBound_K KX J heq hf (wpAny_mono h (fun v s' z => ?_) fun _ _ e => e)))
    | wp_step)
  obtain ⟨b, rfl, q⟩ := z
  dsimp only
  exact wpAny_bind (wpAny_truthy_bool (wpAny_pure q))
theorem ne_rich {Q : Value → Shared → Prop} (KX : K.In s.heap) (J : PySem.W.InstAt s.heap x ox C od) (J2 : PySem.W.InstAt s.heap y oy C od') (hob : PySem.W.subIn K (.ref C) (.type "object") = some true) (hne : PySem.W.findIn K (.ref C) "__ne__" = some (some (.builtin "object.__ne__")))
    (heq : PySem.W.findIn K (.ref C) "__eq__" = some (some (.ref f))) (hf : PySem.W.isFn K (.ref f) = true) (hu : A.units + 2 < cLine)
    (h : wpAny (model prog w) A.in1 (call (.ref f) [.ref x, .ref y]) (fun v s' => ∃ b, v = .bool b ∧ Q (.bool (!b)) s') E s) :
    wpAny (model prog w) A (richCompare .NotEq (.ref x) (.ref y)) Q E s := by
  have fin : wpAny (model prog w) A (tryCompare (.ref x) (Str.ofString "__ne__") (.ref y)) (fun r s' => ∃ v, r = some v ∧ Q v s') E s := by
    unfold tryCompare
    refine wpAny_bind ?_
    simp only [callSpecialIfBound?, bindSpecialIfBound?]
    refine wpAny_holding (wpAny_bind (wpAny_bind (wpAny_bind (J.type.here ((PySem.W.looks_findIn KX hne).here ?_)))))
    simp only [F.cmp_object.ne.bind]
    have fin : wpAny (model prog w) A (call (.builtin "object.__ne__") ([.ref x] ++ [.ref y])) (fun v s' => ∃ b, v = .bool b ∧ Q (.bool b) s') E s :=
      ne_builtin KX J hob heq hf (by omega) (wpAny_mono h (fun v s' z => by
        obtain ⟨b, rfl, q⟩ := z
        exact ⟨b, rfl, !b, rfl, q⟩) fun _ _ z => z)
    have go : wpAny (model prog w) A (match (some (Value.builtin "object.__ne__", [Value.ref x]) : Option (Value × List Value)) with
        | some (g, first) => do
          let v ← call g (first ++ [Value.ref y])
          pure (some v)
        | _ => pure none) (fun a s' => wpAny (model prog w) A (match a with
            | some Value.notImplemented => pure none
            | none => pure none
            | some v => pure (some v)) (fun r s' => ∃ v, r = some v ∧ Q v s') E s') E s := by
      dsimp only
      refine wpAny_bind (wpAny_mono fin (fun v s' z => ?_) fun _ _ z => z)
      obtain ⟨b, rfl, q⟩ := z
      exact wpAny_pure (wpAny_pure ⟨_, rfl, q⟩)
    refine wpAny_bind (wpAny_askSetting (wpAny_ite ?_))
    split
    · exact wpAny_bind (wpAny_pure (wpAny_pure go))
    · exact wpAny_tryCatch (wpAny_bind (wpAny_pure (wpAny_pure go)))
  unfold richCompare
  simp only [oneThing_ref]
  refine wpAny_holding (wpAny_bind (wpAny_cRoomFor (by omega) ?_))
  rw [cmpInfo_NotEq]
  dsimp only
  refine wpAny_bind (J.type.here (wpAny_bind (J2.type.here ?_)))
  rw [show (Value.ref C != Value.ref C) = false from by simp]
  simp only [Bool.false_eq_true, if_false]
  refine wpAny_bind (wpAny_pure ?_)
  simp only [Bool.false_eq_true, if_false]
  refine wpAny_bind (wpAny_mono fin (fun r s' z => ?_) fun _ _ z => z)
  obtain ⟨v, rfl, q⟩ := z
  exact wpAny_pure q
end
section
variable {X : Cx} {CX : CXT} {k : Nat} {f C : Addr} {fd : FuncData} {ps : List Str} {sp : Sp} {E : XK}
/-- o != another one, by the own __eq__ -/
def rNeO (C : Addr) (sp : Sp) (E : XK) : R2 := fun x y H Q => ∃ (a dx : Addr) (fs : List (Str × V)) (b dy : Addr) (gs : List (Str × V)), x = .ref a ∧ y = .ref b ∧ H a = some (.ins C dx fs) ∧ H b = some (.ins C dy gs) ∧
  sp [.ref a, .ref b] H (fun v H' => ∃ r, v = .bl r ∧ Q (.bl (!r)) H') E
theorem op_neOwn (F : FnOk X.prog X.w X.K X.mg X.base CX k f fd ps sp) (hr : Room (k + 1) X.A) (hs : PySem.W.findIn X.K (.ref C) "__eq__" = some (some (.ref f))) (hf : PySem.W.isFn X.K (.ref f) = true) (hn : PySem.W.findIn X.K (.ref C) "__ne__" = some (some (.builtin "object.__ne__"))) (ho : PySem.W.subIn X.K (.ref C) (.type "object") = some true)
    (hb : Binds X.K fd ps []) (hx : Passes CX X E) : OpR X (compareOp .NotEq) (rNeO C sp E) := by
  intro pins s σ H x y v u Q I rx ry h
  obtain ⟨a, dx, fs, b, dy, gs, rfl, rfl, ha, hb0, q⟩ := h
  cases rx
  cases ry
  obtain ⟨mA, J, _⟩ := ins_get I.hok ha
  obtain ⟨od, J, _⟩ := J.look
  obtain ⟨mB, J', _⟩ := ins_get I.hok hb0
  obtain ⟨od', J', _⟩ := J'.look
  refine ne_rich I.kIn J J' ho hn hs hf (by have := hr.units; omega) (wpAny_mono (run_own (A := X.A.in1) F hr.in1 rfl hb hx I (.cons (show L2.RelV (.ref a) (Value.ref a) from rfl) (.cons (show L2.RelV (.ref b) (Value.ref b) from rfl) .nil)) q) (fun v s' z => ?_) fun _ _ z => z)
  obtain ⟨y, H', I', ry, r, rfl, q'⟩ := z
  cases ry
  exact ⟨r, rfl, .bl (!r), H', I', rfl, q'⟩
end
end OGX
set_option Elab.async false
set_option linter.all false
set_option maxRecDepth 100000
set_option maxHeartbeats 4000000
namespace OGX
open PySem PySem.Spec PyProof.Rows L2
/-- a promise where no repr is under way -/
structure FnG (P : Program) (w : World) (K : PySem.W.Frag) (mg : Str → Option Value) (base : Heap) (k : Nat) (f : Addr) (fd : FuncData) (ps : List Str) (sp : Sp) : Prop where
  len : ∀ vs H Q E, sp vs H Q E → vs.length = ps.length
  run : ∀ (A : Around) (outer : List Env) (s : Shared) (H : Hp) (args : Args) (us : List Value) (vs : List V) (Q : VK) (E : XK), A.guards = some [] → Room k A → Env0 P w K mg base A outer s H → BindsTo s fd args (ps.zip us) → Vals vs us → sp vs H Q E →
    codeAny (model P w) A (.call (.ref f) args) (CR CX0 outer P w H s Q E) s
theorem FnG.mono {P : Program} {w : World} {K : PySem.W.Frag} {mg : Str → Option Value} {base : Heap} {j k : Nat} {f : Addr} {fd : FuncData} {ps : List Str} {sp : Sp} (F : FnG P w K mg base j f fd ps sp) (h : j ≤ k) : FnG P w K mg base k f fd ps sp :=
  ⟨F.len, fun A outer s H args us vs Q E hg hr => F.run A outer s H args us vs Q E hg (hr.mono h)⟩
section
variable {P : Program} {w : World} {K : PySem.W.Frag} {mg : Str → Option Value} {base : Heap}
theorem okG {x qual : Str} {st : Stmt} {f : Addr} {fd : FuncData} {N ps : List Str} {k : Nat} {sp : Sp} (F : Fun K x qual st f fd) (S : FnScope N ps (defScope st)) (len : ∀ vs H Q E, sp vs H Q E → vs.length = ps.length)
    (body : ∀ (cdv : Value) (A : Around) (outer : List Env) (s : Shared) (H : Hp) (vs : List V) (Q : VK) (E : XK), A.guards = some [] → Room k (A.deeper (envOfC qual (defScope st) s.heap.objs.size f cdv)) → sp vs H Q E →
      ∃ t, PSs (cxOf CX0 P w K mg base N qual (defScope st) f cdv A outer s H E).nox (defBody st) t ∧ t { nx := fun _ H' => Q .non H', rt := Q } (start N vs) H) : FnG P w K mg base (k + 1) f fd ps sp := by
  obtain ⟨oc, od, kV, doc, pm, an, cdv, ct, osl, rfl, lk, hcd⟩ := F.ex
  refine ⟨len, fun A outer s H args us vs Q E hg hr e0 hb r q => ?_⟩
  have toNow : ∀ b o, base.get? b = some o → s.heap.get? b = some o := fun b o e => (e0.bs b o e).1
  have KX := e0.mod.kin.keeps toNow
  have lim := e0.mod.nolimit.keeps toNow
  have kinds : ∀ y ∈ ps.zip us, (defScope st).names.lookup y.1 = some .local ∨ ((defScope st).names.lookup y.1 = some .cell ∧ ((cellsFrom (s.heap.objs.size + 1) (defScope st).names []).lookup y.1).isSome = true) := by
    rintro ⟨n, v⟩ hy
    refine (S.par n (List.of_mem_zip hy).1).imp id fun c => ⟨c, PySem.W.cellsFrom_some _ _ _ (.inl c)⟩
  refine codeAny_call_function hr.depth (KX _ _ lk) rfl S.co S.gen rfl (PySem.W.codeRec_of KX hcd) (hb _ _ _ _ (wpAny_newFunctionEnv_cells S.kind kinds fun env he s1 x => ?_))
  cases he
  refine ⟨lim.keeps x.toInCall.keep, codeAny_func ?_⟩
  obtain ⟨t, ht, hq⟩ := body cdv A outer s H vs Q E hg (hr.deeper _) q
  refine wpAny_mono (ht.nox.run [] s1 (start N vs) H _ (inv_start S hr.hd e0 (len _ _ _ _ q) r x) hq) (fun fl s' z => ?_) fun _ _ z => z
  rcases fl with _ | _ | _ | u
  · obtain ⟨_, H', J, q'⟩ := z
    exact ⟨V.non, H', J.os, J.bare, J.base, J.hok, rfl, q'⟩
  · exact z.elim fun _ z => z.elim fun _ z => z.2.elim
  · exact z.elim fun _ z => z.elim fun _ z => z.2.elim
  · obtain ⟨v, _, H', J, rv, q'⟩ := z
    exact ⟨v, H', J.os, J.bare, J.base, J.hok, rv, q'⟩
end
section
variable {X : Cx} {k : Nat} {f : Addr} {fd : FuncData} {ps : List Str} {sp : Sp} {x : Str} {p pos : Pos} {e : Expr} {es : List Expr} {t : TA}
theorem pe_callG (F : FnG X.prog X.w X.K X.mg X.base k f fd ps sp) (hu : X.A.guards = some []) (hr : Room k X.A) (hg : Gl X x) (hm : X.mg x = some (.ref f)) (hk : PySem.W.keepIn X.K (.ref f) = true) (hb : Binds X.K fd ps [])
    (ha : PA X (e :: es) t) (hdb : (x == ("__debug__" : Str)) = false := by decide) (he : starEach (e :: es) X.env = (false, eval e X.env) :: starEach es X.env := by rfl) (hpl : (backTo pos (starEach es X.env)).any (·.1) = false := by rfl) :
    PE X (.Call (.Name x p) (e :: es) [] pos) (tCall sp [] E0 t) := by
  refine ⟨fun pins s σ H Q I h => wpAny_Call_Name_kw (ld_glob I hg hm (PySem.W.callWith_K (h₀ := X.base) I.ok.mod.kin hk (thn (ha.run pos pins s σ H _ I h) fun us s1 ⟨vs, H1, I1, r, q⟩ => ⟨I1.kIn, ?_⟩) he hpl) hdb)⟩
  have q : sp vs H1 Q E0 := by
    have q : sp (vs ++ []) H1 Q E0 := q
    rw [List.append_nil] at q
    exact q
  have hl : us.length = ps.length := by rw [← r.length]; exact F.len _ _ _ _ q
  have b := hb s1 us I1.kIn (by rw [List.append_nil]; exact hl)
  rw [List.append_nil] at b
  refine wpAny_call (codeAny_mono (F.run X.A X.stack s1 H1 ⟨us, []⟩ us vs Q E0 hu hr I1.env0 b r q) fun z s' hq => ?_)
  rcases z with e | fl
  · exact hq.elim
  · rcases fl with _ | _ | _ | u
    all_goals first | exact I1.after hq | exact hq.elim
end
/-- the law's call at the heap behind the top: the script's list alone is tracked -/
theorem law_callG {P : Program} {w : World} {K : PySem.W.Frag} {mg mb : Str → Option Value} {k : Nat} {fa a : Addr} {fd : FuncData} {x : Str} {sp : Sp} {s₁ : Shared} {vs : List Value} {ns : List Int}
    (KX : K.In s₁.heap) (G : s₁.heap.Ns mainGlobals mg) (B : s₁.heap.Ns builtinsNs mb) (bs : ∀ x : Str, x ≠ "__name__" → mb x = bootBuiltins x) (lim : s₁.heap.NoLimit) (gens : s₁.gens = #[])
    (ha : s₁.heap.get? a = some { cls := .type "list", data := .seq vs.toArray }) (hi : IntsAre vs ns) (hl : ns.length ≤ sizeLine) (hr : Room k callerA)
    (F : ∀ base : Heap, K.In base → base.Ns mainGlobals mg → FnG P w K mg base k fa fd [x] sp) (hb : ∀ (s : Shared) (u : Value), BindsTo s fd ⟨[u], []⟩ [(x, u)])
    (hsp : ∀ H : Hp, SqL K H a (ns.map V.int) → sp [.ref a] H (fun v _ => v = .bl true) E0) :
    codeAny (model P w) callerA (.call (.ref fa) ⟨[.ref a], []⟩) (fun r s' => r = .ok (.ret (.bool true)) ∧ OldK s₁.heap s'.heap ∧ s'.os = s₁.os ∧ AllBare s'.gens) s₁ := by
  have rv := vals_ints hi
  have go : ∀ H : Hp, (∀ b u, H b = some u → b = a ∧ K.lookup a = none ∧ u = .frz { cls := .type "list", data := .seq vs.toArray } (.lst (ns.map V.int))) → SqL K H a (ns.map V.int) →
      codeAny (model P w) callerA (.call (.ref fa) ⟨[.ref a], []⟩) (fun r s' => r = .ok (.ret (.bool true)) ∧ OldK s₁.heap s'.heap ∧ s'.os = s₁.os ∧ AllBare s'.gens) s₁ := by
    intro H hH hS
    have out : ∀ {b : Addr} {o : Obj}, s₁.heap.get? b = some o → (b = a → False) → (hidT s₁.heap H).get? b = some o := fun {b o} e n => hidT_get e (by
      cases q : H b with
      | none => rfl
      | some u => exact (n (hH b u q).1).elim)
    have ns1 : ∀ {b : Addr} {m : Str → Option Value}, s₁.heap.Ns b m → (hidT s₁.heap H).Ns b m := by
      rintro b m ⟨o, es, ep, e, d, r⟩
      refine ⟨o, es, ep, out e (fun z => ?_), d, r⟩
      rw [z, ha] at e
      cases e
      cases d
    have K1 : K.In (hidT s₁.heap H) := fun b o e => hidT_get (KX b o e) (by
      cases q : H b with
      | none => rfl
      | some u =>
        obtain ⟨z, hk, _⟩ := hH b u q
        rw [z, hk] at e
        cases e)
    obtain ⟨mc, l1, l2⟩ := lim
    have e0 : Env0 P w K mg (hidT s₁.heap H) callerA [] s₁ H := {
      frames := rfl
      mod := ⟨K1, ns1 G, ⟨mb, ns1 B, bs⟩, ⟨mc, ns1 l1, l2⟩⟩
      bs := fun b o e => of_hidT e
      bsz := Nat.le_of_eq (hidT_size _ _)
      funs := trivial
      frf := fun b z => by cases z
      hok := fun b u q => by
        obtain ⟨z, _, rfl⟩ := hH b u q
        rw [z]
        exact ⟨ha, by rw [List.length_map]; exact hl, vs, _, rv, ha⟩
      bare := .of_eq gens }
    refine codeAny_mono ((F _ K1 (ns1 G)).run callerA [] s₁ H ⟨[.ref a], []⟩ [.ref a] [.ref a] _ _ rfl hr e0 (hb s₁ (.ref a)) (.cons rfl .nil) (hsp H hS)) fun r s' z => ?_
    rcases r with e | fl
    · exact z.elim
    rcases fl with _ | _ | _ | u
    case next => exact z.elim
    case brk => exact z.elim
    case cont => exact z.elim
    obtain ⟨v, H', os, bare, un, ok', rv', q⟩ := z
    cases (show v = .bl true from q)
    cases (show u = Value.bool true from rv')
    refine ⟨rfl, OldK.of_keep fun b o e => ?_, os, bare⟩
    cases q : H b with
    | none => exact un.keep b o e q (fun z => by cases z) (fun z => by cases z)
    | some t =>
      obtain ⟨rfl, _, rfl⟩ := hH b t q
      obtain ⟨g, _⟩ := ok' b _ (un.frzs b _ _ q)
      rw [ha] at e
      cases e
      exact g
  cases hk : K.lookup a with
  | some o =>
    have e := KX a o hk
    rw [ha] at e
    cases e
    exact go (fun _ => none) (fun b u z => by cases z) (.inr ⟨_, vs.toArray, _, hk, rfl, rfl, rfl, by rw [List.size_toArray, hi.length]; exact hl, by simpa using rv⟩)
  | none =>
    refine go (fun b => if b = a then some (.frz { cls := .type "list", data := .seq vs.toArray } (.lst (ns.map V.int))) else none) (fun b u z => ?_) (.inl (.inr ⟨{ cls := .type "list", data := .seq vs.toArray }, if_pos rfl⟩))
    by_cases h : b = a
    · exact ⟨h, hk, (Option.some.inj ((if_pos h).symm.trans z)).symm⟩
    · cases (if_neg h).symm.trans z
/-- the end -/
theorem walkG {l : PySem.W.OpenLaw} {n k : Nat} {q : Program} {loose : List Str} {XP : (Str → Option Value) → Heap → Prop} {YP : World → Heap → Prop} {d : DefRec} {K : Params → PySem.W.Frag} {x : Str}
    (h1 : l.most = some n) (h2 : n ≤ sizeLine) (h3 : d.params.defaults = []) (h4 : Room k callerA) (h5 : ∀ (w : World) (h : Heap), YP w h → (K w.params).In h)
    (h6 : ∀ (w : World) (mg : Str → Option Value) (fa : Addr) (h : Heap), YP w h → XP mg h → (K w.params).In h → h.Ns mainGlobals mg → mg d.name = some (.ref fa) → ∃ (fd : FuncData) (sp : Sp), (∀ (s : Shared) (u : Value), BindsTo s fd ⟨[u], []⟩ [(x, u)]) ∧
      (∀ (H : Hp) (a : Addr) (ns : List Int), ns.length ≤ n → (∀ z ∈ ns, Builtin.Int.intBits z ≤ 1048576) → SqL (K w.params) H a (ns.map V.int) → sp [.ref a] H (fun v _ => v = .bl true) E0) ∧
      ∀ base : Heap, (K w.params).In base → base.Ns mainGlobals mg → FnG l.prog w (K w.params) mg base k fa fd [x] sp) :
    PySem.W.WalkO q loose XP YP l.row.toRowW d [] (fun f vs => PySem.call f vs) := by
  refine Att.attach_callB h1 h3 fun w a0 a1 mg mb fa o pm cd doc a vs ns G Y b1 b2 b3 b4 b5 b6 b7 b8 b9 => ?_
  have X := h5 w _ Y
  obtain ⟨fd, sp, c4, c5, c6⟩ := h6 w mg fa _ Y G.X X G.T.g b4
  exact law_callG X G.T.g G.T.b G.T.builtins G.T.nolimit b9 b5 b6 (Nat.le_trans b7 h2) h4 c6 c4 fun H hS => c5 H a ns b7 b8 hS
end OGX
set_option Elab.async false
set_option linter.all false
set_option maxRecDepth 100000
set_option maxHeartbeats 8000000
namespace OG
open PySem PySem.Spec PyProof.Rows L2
/-- an own text is read as it was written -/
theorem own_right {b : Int} {m : Nat} {ms ks : List Str} {ws : List Int} {Ms : List (List (List Int))} (hb : b = 0 ∨ b ∈ primesL) (ok : BkOk b m ms ws ks Ms) (hM : ∀ M ∈ Ms, MatOk b m M) :
    byM (Txt.split ((Txt.split (bookText b ms ws ks Ms) "\n").head?.getD "") " ") = some b ∧ walkD b ((Txt.split (bookText b ms ws ks Ms) "\n").drop 1) [] [] = some (ms.zip ws, ks.zip (Ms.map List.flatten)) ∧ wrongM (bookText b ms ws ks Ms) = none := by
  have e1 : byM (Txt.split ((Txt.split (bookText b ms ws ks Ms) "\n").head?.getD "") " ") = some b := by
    rw [own_lines ok hM]
    exact by_own hb
  have e2 : walkD b ((Txt.split (bookText b ms ws ks Ms) "\n").drop 1) [] [] = some (ms.zip ws, ks.zip (Ms.map List.flatten)) := by
    rw [own_lines ok hM]
    exact own_walk ok hM
  refine ⟨e1, e2, ?_⟩
  have e3 := walk_both (i := 2) e2
  unfold wrongM
  rw [e1]
  show (match walkM b ((Txt.split (bookText b ms ws ks Ms) "\n").drop 1) 2 [] [] with
    | .inl i => some i
    | .inr mk => if mk.2 = [] then some ((Txt.split (bookText b ms ws ks Ms) "\n").length + 1) else none) = none
  rw [show walkM b ((Txt.split (bookText b ms ws ks Ms) "\n").drop 1) 2 [] [] = _ from e3]
  show (if (ks.zip (Ms.map List.flatten)).map (·.1) = [] then some ((Txt.split (bookText b ms ws ks Ms) "\n").length + 1) else none) = none
  rw [if_neg fun z => ?_]
  have l := congrArg List.length z
  rw [List.length_map, List.length_zip, List.length_map] at l
  have := ok.k1
  have := ok.ml
  simp only [List.length_nil] at l
  omega
theorem book_len {H : Hp} {o : Addr} {b : Int} {m : Nat} {ms ks : List Str} {ws : List Int} {Ms : List (List (List Int))} (hB : BookAt H o b m ms ws ks Ms) (ok : BkOk b m ms ws ks Ms) : (bookText b ms ws ks Ms).length ≤ 5100 := by
  have hm4 := ok.m4
  have hml := ok.nm.len
  have hwl := ok.wl
  have hk3 := ok.k3
  have hMl := ok.ml
  have hb0 := ok.b0
  have hb97 := ok.b97
  obtain ⟨kvs, tm, tw, tk, td, hO, hl10, v1, v2, hT2, v3, hT3, v4, hT4, v5, tkvs, hTd, tnd, tln, tabs⟩ := id hB
  have lb := istr_len (i := b) (by omega) (by omega)
  refine join_le (c := 254) (n := 20) (fun y hy => ?_) ?_ rfl
  · unfold bookLines at hy
    rcases List.mem_cons.mp hy with rfl | hy
    · rw [app_len]
      exact Nat.le_trans (Nat.add_le_add_left lb 5) (by decide)
    · rcases List.mem_append.mp hy with hy | hy
      · obtain ⟨z, wt, h1, h2, rfl⟩ := zw_mem hy
        obtain ⟨_, w1, w2, _⟩ := ok.w wt h2
        exact Nat.le_trans (markL_len (ok.nm.is z h1).2.1 w1 w2) (by decide)
      · obtain ⟨k, M, h1, h2, rfl⟩ := zw_mem hy
        obtain ⟨e1, e2⟩ := mats_of hB ok M h2
        exact kindL_len (ok.nk.is k h1).2.1 (fun row hr => ⟨by rw [(e2 row hr).1]; exact hm4, fun z hz => ⟨((e2 row hr).2 z hz).1, ((e2 row hr).2 z hz).2.1⟩⟩) (by omega)
  · unfold bookLines
    rw [List.length_cons, List.length_append, List.length_zipWith, List.length_zipWith]
    omega
/-- a Book stays -/
theorem ObjAt.kp {K : PySem.W.Frag} {mg : Str → Option Value} {T : Txt K mg} {H H' : Hp} {x p : Addr} {z : Str} {b : Int} {mw : List (Str × Int)} {kw : List (Str × List Int)} (h : ObjAt T H x z b mw kw) (hp : ∃ xs, H p = some (.lst xs)) (k : Kp p H H') : ObjAt T H' x z b mw kw := by
  obtain ⟨ys, hp⟩ := hp
  have go : ∀ {a o}, H a = some o → (∀ xs, o ≠ .lst xs) → H' a = some o := fun {a o} e n => k _ _ (fun z => by
    rw [z, hp] at e
    exact n ys (Option.some.inj e).symm) e
  have gm : ∀ {t xs}, MkT H t xs → MkT H' t xs := fun {t xs} ⟨o, e, d⟩ => ⟨o, go e (fun _ z => by cases z), d⟩
  obtain ⟨dx, t1, t2, a1, a2, fs, kv2, hx, l10, f1, f2, f3, g1, f4, g2, f5, g3, f6, g4, g5, n1, n2⟩ := h
  refine ⟨dx, t1, t2, a1, a2, fs, kv2, go hx (fun _ z => by cases z), l10, f1, f2, f3, gm g1, f4, gm g2, f5, go g3 (fun _ z => by cases z), f6, go g4 (fun _ z => by cases z), ?_⟩
  have key : ∀ {kv : List (Key × V)} {kw : List (Str × List Int)}, KvK H kv kw → KvK H' kv kw := by
    intro kv kw h
    induction h with
    | nil => exact .nil
    | cons h _ ih =>
      obtain ⟨e, t, et, ht⟩ := h
      exact .cons ⟨e, t, et, go ht (fun _ z => by cases z)⟩ ih
  exact ⟨key g5, n1, n2⟩
theorem ObjAt.same {K : PySem.W.Frag} {mg : Str → Option Value} {T : Txt K mg} {H H' : Hp} {x : Addr} {z : Str} {b : Int} {mw : List (Str × Int)} {kw : List (Str × List Int)} (h : ObjAt T H x z b mw kw) (s : Same H H') : ObjAt T H' x z b mw kw := by
  have gm : ∀ {t xs}, MkT H t xs → MkT H' t xs := fun {t xs} ⟨o, e, d⟩ => ⟨o, s _ _ e, d⟩
  obtain ⟨dx, t1, t2, a1, a2, fs, kv2, hx, l10, f1, f2, f3, g1, f4, g2, f5, g3, f6, g4, g5, n1, n2⟩ := h
  refine ⟨dx, t1, t2, a1, a2, fs, kv2, s _ _ hx, l10, f1, f2, f3, gm g1, f4, gm g2, f5, s _ _ g3, f6, s _ _ g4, ?_⟩
  have key : ∀ {kv : List (Key × V)} {kw : List (Str × List Int)}, KvK H kv kw → KvK H' kv kw := by
    intro kv kw h
    induction h with
    | nil => exact .nil
    | cons h _ ih =>
      obtain ⟨e, t, et, ht⟩ := h
      exact .cons ⟨e, t, et, s _ _ ht⟩ ih
  exact ⟨key g5, n1, n2⟩
/-- Book(text) of an own text -/
theorem book_made {K : PySem.W.Frag} {mg : Str → Option Value} {T : Txt K mg} {H : Hp} {b : Int} {m : Nat} {ms ks : List Str} {ws : List Int} {Ms : List (List (List Int))} {z : Str} {R : Addr → Hp → Prop} (ez : z = bookText b ms ws ks Ms) (hb : b = 0 ∨ b ∈ primesL) (ok : BkOk b m ms ws ks Ms) (hM : ∀ M ∈ Ms, MatOk b m M) (hz : z.length ≤ 900000)
    (q : ∀ (x : Addr) (H' : Hp), Same H H' → H x = none → ObjAt T H' x z b (ms.zip ws) (ks.zip (Ms.map List.flatten)) → R x H') :
    ∀ x dx, H x = none → H dx = none → dx ≠ x → spBookInitX T (.ref x :: ([.str z] ++ [])) (upd (upd H dx (.own x)) x (.ins T.c_Book dx [])) (fun v H2 => v = .non ∧ R x H2) E0 := by
  intro x dx hx hd ne
  obtain ⟨e1, e2, e3⟩ := own_right hb ok hM
  rw [← ez] at e1 e2 e3
  refine ⟨x, dx, .str z, H, rfl, fun a o e => ?_, hx, hz, upd_same, fun n hn => ?_, fun z' ez' _ b' mw kw H' s ho h1 h2 => ?_⟩
  · rw [upd_ne (ne_of_none e hx), upd_ne (ne_of_none e hd)]
    exact e
  · rw [show dueM (.str z) = wrongM z from rfl, e3] at hn
    cases hn
  · cases ez'
    rw [e1] at h1
    cases h1
    rw [e2] at h2
    cases h2
    exact ⟨rfl, q x H' s hx ho⟩
end OG
set_option Elab.async false
set_option linter.all false
set_option maxRecDepth 100000
set_option maxHeartbeats 8000000
namespace OG
open PySem PySem.Spec PyProof.Rows L2
/-- what of Book's methods stands in the text -/
structure TxtM (K : PySem.W.Frag) (mg : Str → Option Value) (T : Txt K mg) : Prop where
  exM : OexC K T.c_NoMark
  inM : PySem.W.findIn K (.ref T.c_NoMark) "__init__" = some (some (.ref T.f_GateError_init))
  noM : PySem.W.findIn K (.ref T.c_NoMark) "value" = some none
  xfM : XfC K T.c_NoMark
  ecM : ExcC K T.c_NoMark
  teM : PySem.W.exmOne K (.ref T.c_NoMark) (.ref T.c_GateError) = some true
  exK : OexC K T.c_NoKind
  inK : PySem.W.findIn K (.ref T.c_NoKind) "__init__" = some (some (.ref T.f_GateError_init))
  noK : PySem.W.findIn K (.ref T.c_NoKind) "value" = some none
  xfK : XfC K T.c_NoKind
  ecK : ExcC K T.c_NoKind
  teK : PySem.W.exmOne K (.ref T.c_NoKind) (.ref T.c_GateError) = some true
  exN : OexC K T.c_BadNames
  inN : PySem.W.findIn K (.ref T.c_BadNames) "__init__" = some (some (.ref T.f_GateError_init))
  noN : PySem.W.findIn K (.ref T.c_BadNames) "value" = some none
  xfN : XfC K T.c_BadNames
  ecN : ExcC K T.c_BadNames
  teN : PySem.W.exmOne K (.ref T.c_BadNames) (.ref T.c_GateError) = some true
  ktMM : PySem.W.kitOne K (.ref T.c_NoMark) (.ref T.c_NoMark) = some true
  ktMK : PySem.W.kitOne K (.ref T.c_NoMark) (.ref T.c_NoKind) = some false
  ktKM : PySem.W.kitOne K (.ref T.c_NoKind) (.ref T.c_NoMark) = some false
  ktKK : PySem.W.kitOne K (.ref T.c_NoKind) (.ref T.c_NoKind) = some true
  ktNN : PySem.W.kitOne K (.ref T.c_BadNames) (.ref T.c_BadNames) = some true
  ct : PySem.W.findIn K (.ref T.c_Book) "__contains__" = some (some (.ref T.f_Book_contains))
  ctF : PySem.W.isFn K (.ref T.f_Book_contains) = true
  eq : PySem.W.findIn K (.ref T.c_Book) "__eq__" = some (some (.ref T.f_Book_eq))
  eqF : PySem.W.isFn K (.ref T.f_Book_eq) = true
  ks : PySem.W.kitOne K (.type "str") (.ref T.c_Book) = some false
  m_weight : Meth K T.c_Book "weight" T.f_Book_weight
  m_worth : Meth K T.c_Book "worth" T.f_Book_worth
theorem kit_own {K : PySem.W.Frag} {C : Addr} {b : Bool} {t : String} (h1 : PySem.W.isClsIn K C = true) (h2 : PySem.W.typeIn K (.ref C) = some (.type "type")) (h3 : PySem.W.subIn K (.type t) (.ref C) = some b) : PySem.W.kitOne K (.type t) (.ref C) = some b := by
  unfold PySem.W.kitOne
  rw [if_neg (by simp)]
  show (if ((PySem.W.clsIn K C).isSome && PySem.W.typeIn K (.ref C) == some (.type "type")) = true then PySem.W.subIn K (.type t) (.ref C) else none) = some b
  rw [show (PySem.W.clsIn K C).isSome = true from h1, h2, if_pos (by simp), h3]
theorem KvK.at {H : Hp} {k : Str} {zs : List Int} : ∀ {kv : List (Key × V)} {kw : List (Str × List Int)} {a : Nat}, KvK H kv kw → (kw.map (·.1)).Nodup → kw[a]? = some (k, zs) → ∃ t, valV kv (.inr k) = some (.ref t) ∧ H t = some (.tup (zs.map V.int))
  | _, _, a, .nil, _, h => by simp at h
  | p :: kv, q :: kw, a, .cons h r, nd, ha => by
    rw [List.map_cons, List.nodup_cons] at nd
    obtain ⟨e, t, et, ht⟩ := h
    cases a with
    | zero =>
      have e0 := Option.some.inj ha
      cases e0
      exact ⟨t, by rw [valV_pos e, et], ht⟩
    | succ a =>
      have ha : kw[a]? = some (k, zs) := ha
      obtain ⟨t', e1, e2⟩ := KvK.at (a := a) r nd.2 ha
      refine ⟨t', ?_, e2⟩
      rw [valV_neg (by rw [e]; exact k_ne fun z => nd.1 (by
        rw [z]
        exact List.mem_map.mpr ⟨_, List.mem_of_getElem? ha, rfl⟩))]
      exact e1
theorem oex_made {K : PySem.W.Frag} {C : Addr} (ex : OexC K C) (no : PySem.W.findIn K (.ref C) "value" = some none) {H : Hp} {y : V} {Qx : XK} (q : ∀ d H', Same H H' → H' d = some (.xd [("value", y)]) → Qx (.ref C) (some d) H') :
    [y].length ≤ 1000 ∧ ∀ a, H a = none → spGateInit K (.ref a :: ([y] ++ [])) (upd H a (exo a C none))
      (fun v H2 => v = .non ∧ ∃ (d : Addr) (fs : List (Str × V)), H2 a = some (exo a C (some d)) ∧ H2 d = some (exd d fs) ∧ H d = none ∧ Qx (.ref C) (some d) (upd (del H2 a) d (.xd fs))) (fun _ _ _ => False) := by
  refine ⟨by show 1 ≤ 1000; decide, fun a ha => ⟨a, C, y, rfl, ex, no, upd_same, fun dx hdx hne => ⟨rfl, dx, [("value", y)], upd_same, ?_, ?_, ?_⟩⟩⟩
  · rw [upd_ne hne, upd_same]
  · rw [upd_ne hne] at hdx
    exact hdx
  · exact q dx _ (raised_same ha hdx) upd_same
section
variable {P : Program} {w : World} {K : PySem.W.Frag} {mg : Str → Option Value} {base : Heap}
theorem valV_mem {ms : List (Str × Int)} {k : Str} {v : Int} (h : valV (kvM ms) (.inr k) = some (.int v)) : k ∈ ms.map (·.1) := by
  have e := has_key (kvM_keys ms) k
  rw [h] at e
  exact of_decide_eq_true e.symm
/-- the weight of a mark, or NoMark -/
def spWeight2 (T : Txt K mg) : Sp := fun vs H Q E => ∃ (x : Addr) (v : V) (z : Str) (b : Int) (mw : List (Str × Int)) (kw : List (Str × List Int)), vs = [.ref x, v] ∧ NearV H v ∧ ObjAt T H x z b mw kw ∧
  ((∃ (mk : Str) (wt : Int), v = .str mk ∧ valV (kvM mw) (.inr mk) = some (.int wt) ∧ Q (.int wt) H) ∨ (inM v (mw.map (·.1)) = false ∧ ∀ d H', Same H H' → H' d = some (.xd [("value", v)]) → E (.ref T.c_NoMark) (some d) H'))
theorem ok_Book_weight (T : Txt K mg) (XT : TxtX K mg T) (XM : TxtM K mg T) : FnOk P w K mg base (L2.CX P w) 3 T.f_Book_weight T.fd_Book_weight ["self", "mark"] (spWeight2 T) := by
  refine T.F_Book_weight.okX sc_Book_weight (fun vs H Q E h => ?_) (fun cdv A outer s H vs Q E hr h => ?_)
  · obtain ⟨x, v, z, b, mw, kw, rfl, _⟩ := h
    rfl
  · obtain ⟨x, v, z, b, mw, kw, rfl, hv, hX, h⟩ := h
    refine ⟨_, (pss_cons (ps_if (pt_cmpR (OGX.op_notInOwn (ok_Book_contains T XT) (hr.mono (by decide)) XM.ct XM.ctF T.b_Book_contains passL) (pv 1) (pv 0) rfl) (pss_one (ps_raise rfl (takes_of rfl rfl rfl rfl) (pmk_oex XM.exM XM.inM XT.tyI (ok_GateError_init T) (hr.mono (by decide)) T.b_GateError_init .nil pass0 (by rfl) T.g_NoMark (pa_cons (pv 1) pa_nil)))) pss_nil)
  (pss_one (ps_ret (pe_dget (hu_of hr) (pe_fld (pv 0) rfl) (pv 1) (fun _ _ => rfl))))), ?_⟩
    obtain ⟨dx, t1, t2, a1, a2, fs, kv2, hx, _, f1, f2, f3, g1, f4, g2, f5, g3, f6, g4, g5, n1, n2⟩ := id hX
    refine ⟨v, rfl, .ref x, rfl, x, dx, fs, rfl, hx, x, v, z, b, mw, kw, rfl, hv, hX, _, rfl, ?_⟩
    rcases h with ⟨mk, wt, rfl, hw, q⟩ | ⟨e, q⟩
    · have e : inM (.str mk) (mw.map (·.1)) = true := by
        unfold inM
        rw [inV_str, decide_eq_true (valV_mem hw)]
        rfl
      rw [e]
      refine ⟨false, rfl, iteF ?_⟩
      exact ⟨.ref x, rfl, x, T.c_Book, dx, fs, _, rfl, hx, XT.cl, XT.na5, f5, .str mk, rfl, a1, _, rfl, dget g3 hw, q⟩
    · rw [e]
      refine ⟨true, rfl, iteT ?_⟩
      exact ⟨v, rfl, oex_made XM.exM XM.noM q⟩
def spWorth2 (T : Txt K mg) : Sp := fun vs H Q E => ∃ (x : Addr) (kd one oth : V) (z : Str) (b : Int) (mw : List (Str × Int)) (kw : List (Str × List Int)), vs = [.ref x, kd, one, oth] ∧ NearV H kd ∧ NearV H one ∧ NearV H oth ∧ ObjAt T H x z b mw kw ∧ (mw.map (·.1)).Nodup ∧ (kw.map (·.1)).Nodup ∧ mw.length ≤ 4 ∧
  ((inM kd (kw.map (·.1)) = false ∧ ∀ d H', Same H H' → H' d = some (.xd [("value", kd)]) → E (.ref T.c_NoKind) (some d) H') ∨
   (inM kd (kw.map (·.1)) = true ∧ inM one (mw.map (·.1)) = false ∧ ∀ d H', Same H H' → H' d = some (.xd [("value", one)]) → E (.ref T.c_NoMark) (some d) H') ∨
   (inM kd (kw.map (·.1)) = true ∧ inM one (mw.map (·.1)) = true ∧ inM oth (mw.map (·.1)) = false ∧ ∀ d H', Same H H' → H' d = some (.xd [("value", oth)]) → E (.ref T.c_NoMark) (some d) H') ∨
   (∃ (k m1 m2 : Str) (a i j : Nat) (zs : List Int) (v : Int), kd = .str k ∧ one = .str m1 ∧ oth = .str m2 ∧ kw[a]? = some (k, zs) ∧ (mw.map (·.1))[i]? = some m1 ∧ (mw.map (·.1))[j]? = some m2 ∧ zs[i * mw.length + j]? = some v ∧ Q (.int v) H))
theorem inM_mem {z : Str} {l : List Str} (h : z ∈ l) : inM (.str z) l = true := by
  unfold inM
  rw [inV_str, decide_eq_true h]
  rfl
theorem inM_parts (v : V) (l : List Str) : inM v l = (isStr v && inV v (l.map V.str)) := rfl
theorem ok_Book_worth (T : Txt K mg) (XT : TxtX K mg T) (XM : TxtM K mg T) : FnOk P w K mg base (L2.CX P w) 3 T.f_Book_worth T.fd_Book_worth ["self", "kind", "one", "other"] (spWorth2 T) := by
  refine T.F_Book_worth.okX sc_Book_worth (fun vs H Q E h => ?_) (fun cdv A outer s H vs Q E hr h => ?_)
  · obtain ⟨x, kd, one, oth, z, b, mw, kw, rfl, _⟩ := h
    rfl
  · obtain ⟨x, kd, one, oth, z, b, mw, kw, rfl, hk, ho, hot, hX, nd1, nd2, hm, h⟩ := h
    refine ⟨_, (pss_cons (ps_if (PW.pt (pw_or (pt_not (pt_val (pe_callB call_isi (by rfl) T.n_isinstance (by decide +kernel) (pa_cons (pv 1) (pa_cons (pe_bltn (v := .ty "str") (by rfl) T.n_str (by decide +kernel) rfl) pa_nil))))) (pw_or1 (pt_cmpR op_notIn_seq (pv 1) (pe_fld (pv 0) rfl) rfl)))) (pss_one (ps_raise rfl (takes_of rfl rfl rfl rfl) (pmk_oex XM.exK XM.inK XT.tyI (ok_GateError_init T) (hr.mono (by decide)) T.b_GateError_init .nil pass0 (by rfl) T.g_NoKind (pa_cons (pv 1) pa_nil)))) pss_nil)
  (pss_cons (ps_if (pt_cmpR (OGX.op_notInOwn (ok_Book_contains T XT) (hr.mono (by decide)) XM.ct XM.ctF T.b_Book_contains passL) (pv 2) (pv 0) rfl) (pss_one (ps_raise rfl (takes_of rfl rfl rfl rfl) (pmk_oex XM.exM XM.inM XT.tyI (ok_GateError_init T) (hr.mono (by decide)) T.b_GateError_init .nil pass0 (by rfl) T.g_NoMark (pa_cons (pv 2) pa_nil)))) pss_nil)
  (pss_cons (ps_if (pt_cmpR (OGX.op_notInOwn (ok_Book_contains T XT) (hr.mono (by decide)) XM.ct XM.ctF T.b_Book_contains passL) (pv 3) (pv 0) rfl) (pss_one (ps_raise rfl (takes_of rfl rfl rfl rfl) (pmk_oex XM.exM XM.inM XT.tyI (ok_GateError_init T) (hr.mono (by decide)) T.b_GateError_init .nil pass0 (by rfl) T.g_NoMark (pa_cons (pv 3) pa_nil)))) pss_nil)
  (pss_cons (ps_set (i := 4) sc_Book_worth.nd rfl (Or.inl rfl) (pe_op op_add (pe_op op_mulW (OGX.pe_tupF PySem.F.plainAttrs_tuple PySem.F.slot_tuple_index PySem.F.type_tuple_index mt_tup_index (pe_fld (pv 0) rfl) (pa_cons (pv 2) pa_nil)) (pe_callB call_len_seq (by rfl) T.n_len PySem.boot_len (pa_cons (pe_fld (pv 0) rfl) pa_nil))) (OGX.pe_tupF PySem.F.plainAttrs_tuple PySem.F.slot_tuple_index PySem.F.type_tuple_index mt_tup_index (pe_fld (pv 0) rfl) (pa_cons (pv 3) pa_nil))))
  (pss_one (ps_ret (pe_ix ix_tup (pe_dget (hu_of hr) (pe_fld (pv 0) rfl) (pv 1) (fun _ _ => rfl)) (pv 4) (fun _ _ => rfl)))))))), ?_⟩
    obtain ⟨dx, t1, t2, a1, a2, fs, kv2, hx, _, f1, f2, f3, g1, f4, g2, f5, g3, f6, g4, g5, n1, n2⟩ := id hX
    obtain ⟨ty0, ty, kt⟩ := isi_ty (K := K) hk
    refine ⟨kd, rfl, _, _, ty0, _, _, rfl, .ty _, ty, kt, ?_⟩
    by_cases hs : isStr kd = true
    case neg =>
      have hs : isStr kd = false := by simpa using hs
      have hkn : inM kd (kw.map (·.1)) = false := by
        rw [inM_parts, hs]
        rfl
      rcases h with ⟨_, q⟩ | ⟨h, _⟩ | ⟨h, _⟩ | ⟨k, m1, m2, a, i, j, zs, v, rfl, _⟩
      · rw [hs]
        refine ⟨false, rfl, iteT ?_⟩
        refine iteT ?_
        exact ⟨kd, rfl, oex_made XM.exK XM.noK q⟩
      · rw [hkn] at h
        cases h
      · rw [hkn] at h
        cases h
      · cases hs
    case pos =>
    rw [hs]
    refine ⟨true, rfl, iteF ?_⟩
    have fl : flatV kd = true := by
      cases kd <;> first | rfl | cases hs
    refine ⟨kd, rfl, .ref x, rfl, x, T.c_Book, dx, fs, _, rfl, hx, XT.cl, XT.na4, f4, t2, _, rfl, .inr g2.sq, fl, flat_strs _, ?_⟩
    have ek : inV kd ((kw.map (·.1)).map V.str) = inM kd (kw.map (·.1)) := by
      rw [inM_parts, hs]
      rfl
    rw [ek]
    refine ⟨_, rfl, ?_⟩
    by_cases hk1 : inM kd (kw.map (·.1)) = false
    case pos =>
      rcases h with ⟨_, q⟩ | ⟨h, _⟩ | ⟨h, _⟩ | ⟨k, m1, m2, a, i, j, zs, v, rfl, _, _, hkk, _⟩
      · rw [hk1]
        refine iteT ?_
        exact ⟨kd, rfl, oex_made XM.exK XM.noK q⟩
      · rw [hk1] at h
        cases h
      · rw [hk1] at h
        cases h
      · have e : inM (.str k) (kw.map (·.1)) = true := inM_mem (List.mem_map.mpr ⟨(k, zs), List.mem_of_getElem? hkk, rfl⟩)
        rw [e] at hk1
        cases hk1
    case neg =>
    have hk1 : inM kd (kw.map (·.1)) = true := by simpa using hk1
    rw [hk1]
    refine iteF ?_
    refine ⟨one, rfl, .ref x, rfl, x, dx, fs, rfl, hx, x, one, z, b, mw, kw, rfl, ho, hX, _, rfl, ?_⟩
    rcases h with ⟨h, _⟩ | ⟨_, h, q⟩ | h
    · rw [hk1] at h
      cases h
    · rw [h]
      refine ⟨true, rfl, iteT ?_⟩
      exact ⟨one, rfl, oex_made XM.exM XM.noM q⟩
    have ho1 : inM one (mw.map (·.1)) = true := by
      rcases h with ⟨_, h, _⟩ | ⟨k, m1, m2, a, i, j, zs, v, rfl, rfl, _, _, h, _⟩
      · exact h
      · exact inM_mem (List.mem_of_getElem? h)
    rw [ho1]
    refine ⟨false, rfl, iteF ?_⟩
    refine ⟨oth, rfl, .ref x, rfl, x, dx, fs, rfl, hx, x, oth, z, b, mw, kw, rfl, hot, hX, _, rfl, ?_⟩
    rcases h with ⟨_, _, h, q⟩ | ⟨k, m1, m2, a, i, j, zs, v, rfl, rfl, rfl, hkk, hi, hj, hv, q⟩
    · rw [h]
      refine ⟨true, rfl, iteT ?_⟩
      exact ⟨oth, rfl, oex_made XM.exM XM.noM q⟩
    · rw [inM_mem (List.mem_of_getElem? hj)]
      refine ⟨false, rfl, iteF ?_⟩
      have fst : ∀ {i : Nat} {y : Str}, (mw.map (·.1))[i]? = some y → ∀ m, m < i → (mw.map (·.1))[m]? ≠ some y := fun {i y} h m lt e => by
        have hm := (List.getElem?_eq_some_iff.mp e).1
        have hi := (List.getElem?_eq_some_iff.mp h).1
        have q : (mw.map (·.1))[m] = (mw.map (·.1))[i] := (List.getElem?_eq_some_iff.mp e).2.trans (List.getElem?_eq_some_iff.mp h).2.symm
        exact absurd ((List.getElem_inj nd1).mp q) (by omega)
      refine ⟨.ref x, rfl, x, T.c_Book, dx, fs, _, rfl, hx, XT.cl, XT.na3, f3, ?_⟩
      obtain ⟨o1, g1o, g1d⟩ := id g1
      have li : i < 4 := by
        have := (List.getElem?_eq_some_iff.mp hi).1
        rw [List.length_map] at this
        omega
      refine ⟨⟨t1, o1, _, rfl, g1o, g1d⟩, .str m1, rfl, t1, _, m1, i, rfl, rfl, g1.sq, hi, fst hi, ?_⟩
      refine ⟨.ref x, rfl, x, T.c_Book, dx, fs, _, rfl, hx, XT.cl, XT.na3, f3, t1, _, rfl, .inr g1.sq, ?_⟩
      rw [List.length_map, List.length_map]
      refine ⟨_, _, rfl, rfl, wide_mul (a := 20) (b := 4) (show (i : Int).natAbs < 2 ^ 20 by omega) (show (mw.length : Int).natAbs < 2 ^ 4 by omega) (by decide) (by decide) (by decide), ?_⟩
      refine ⟨.ref x, rfl, x, T.c_Book, dx, fs, _, rfl, hx, XT.cl, XT.na3, f3, ⟨t1, o1, _, rfl, g1o, g1d⟩, .str m2, rfl, t1, _, m2, j, rfl, rfl, g1.sq, hj, fst hj, ?_⟩
      refine ⟨_, _, rfl, rfl, ?_⟩
      obtain ⟨t, e1, e2⟩ := KvK.at g5 nd2 hkk
      refine ⟨.ref x, rfl, x, T.c_Book, dx, fs, _, rfl, hx, XT.cl, XT.na6, f6, .str k, rfl, a2, _, rfl, dget g4 e1, _, rfl, t, _, ((i * mw.length + j : Nat) : Int), _, rfl, ?_, SqT.of e2, atI_nat (by rw [List.getElem?_map, hv]; rfl), q⟩
      show V.int ((i : Int) * (mw.length : Int) + (j : Int)) = V.int ((i * mw.length + j : Nat) : Int)
      rw [Int.natCast_add, Int.natCast_mul]
end
end OG
set_option Elab.async false
set_option linter.all false
set_option maxRecDepth 100000
set_option maxHeartbeats 4000000
namespace OGX
open PySem PySem.Spec PyProof.Rows L2
/-- what a zip draws from: an iterator at i over what stands at l; J k says that k items are gone -/
structure Src (i l : Addr) (items : Array Value) (J : Nat → Heap → Prop) : Prop where
  keep : ∀ {k : Nat} {h h' : Heap}, J k h → (∀ c o, c = i ∨ c = l → h.get? c = some o → h'.get? c = some o) → J k h'
  item : ∀ {P : Program} {w : World} {A : Around} {E : Value → Shared → Prop} {s : Shared} {k : Nat} {x : Value} {Q : Value → Shared → Prop}, J k s.heap → items[k]? = some x → (∀ h', J (k + 1) h' → Heap.SameBut i s.heap h' → Q x { s with heap := h' }) →
    wpAny (model P w) A (Builtin.SmallTypes.nextOf (.ref i)) Q E s
  done : ∀ {P : Program} {w : World} {A : Around} {E : Value → Shared → Prop} {s : Shared} {k : Nat} {Q : Value → Shared → Prop}, A.handled = none → J k s.heap → items[k]? = none →
    (∀ h' e, Heap.ExtBut i s.heap h' → (∃ o, h'.get? e = some o ∧ o.cls = .type "StopIteration") → E (.ref e) { s with heap := h' }) → wpAny (model P w) A (Builtin.SmallTypes.nextOf (.ref i)) Q E s
theorem src_tup {i l : Addr} {items : Array Value} (n : l ≠ i) : Src i l items fun k h => h.IsTupleIter i l k ∧ h.IsTuple l items where
  keep := fun ⟨a, b⟩ f => ⟨a.at fun o e => f i o (.inl rfl) e, b.at fun o e => f l o (.inr rfl) e⟩
  item := fun ⟨a, b⟩ hx q => RZ.nextOf_tuple_item a b hx fun h' a' sb => q h' ⟨a', b.extBut sb.extBut n⟩ sb
  done := fun hh ⟨a, b⟩ hx q => RZ.nextOf_tuple_end hh a b hx q
theorem src_lst {i l : Addr} {items : Array Value} (n : l ≠ i) : Src i l items fun k h => h.IsListIter i l k ∧ h.IsList l items where
  keep := fun ⟨a, b⟩ f => ⟨a.at fun o e => f i o (.inl rfl) e, b.at fun o e => f l o (.inr rfl) e⟩
  item := fun ⟨a, b⟩ hx q => wpAny_nextOf_list_item a b hx fun h' a' sb => q h' ⟨a', b.extBut sb.extBut n⟩ sb
  done := fun hh ⟨a, b⟩ hx q => wpAny_nextOf_list_end hh a b hx q
section
variable {P : Program} {w : World} {A : Around} {E : Value → Shared → Prop} {s : Shared} {z TI TO i1 i2 l1 l2 : Addr} {xs ys : Array Value} {J1 J2 : Nat → Heap → Prop} {k1 k2 : Nat} {a b : Value}
/-- what stands in z, TO, i1, i2 may change -/
def Zk (z TO i1 i2 : Addr) (h h' : Heap) : Prop := ∀ c o, c ≠ z → c ≠ TO → c ≠ i1 → c ≠ i2 → h.get? c = some o → h'.get? c = some o
theorem zip_more (D : ZipApart z TI TO i1 i2 l1 l2) (S1 : Src i1 l1 xs J1) (S2 : Src i2 l2 ys J2) {x y : Value} {Q : Value → Shared → Prop} (hz : IsZip s.heap z TI TO .none) (hI : IsPair s.heap TI (.ref i1) (.ref i2)) (hO : IsPair s.heap TO a b)
    (j1 : J1 k1 s.heap) (j2 : J2 k2 s.heap) (hx : xs[k1]? = some x) (hy : ys[k2]? = some y)
    (q : ∀ h', IsZip h' z TI TO (rawInt s.heap.objs.size) → IsPair h' TO x y → J1 (k1 + 1) h' → J2 (k2 + 1) h' → IsPair h' s.heap.objs.size x y → h'.objs.size = s.heap.objs.size + 1 → Zk z TO i1 i2 s.heap h' → Q (.ref s.heap.objs.size) { s with heap := h' }) :
    wpAny (model P w) A (Builtin.«zip.__next__» ⟨[.ref z], []⟩) (fun fin s' => ∃ v, fin = .done (.ret v) ∧ Q v s') E s := by
  have k1at : ∀ {n : Nat} {h h' : Heap} {c : Addr}, Heap.ExtBut c h h' → i1 ≠ c → l1 ≠ c → J1 n h → J1 n h' := fun e n1 n2 j => S1.keep j fun d o hd g => e d o (by rcases hd with rfl | rfl <;> assumption) g
  have k2at : ∀ {n : Nat} {h h' : Heap} {c : Addr}, Heap.ExtBut c h h' → i2 ≠ c → l2 ≠ c → J2 n h → J2 n h' := fun e n1 n2 j => S2.keep j fun d o hd g => e d o (by rcases hd with rfl | rfl <;> assumption) g
  change wpAny _ _ (field (.ref z) 2 >>= _) _ _ _
  refine wpAny_bind (wpAny_field hz rfl (x := .bool false) rfl ?_)
  change wpAny _ _ (field (.ref z) 3 >>= _) _ _ _
  refine wpAny_bind (wpAny_field hz rfl (x := .ref TI) rfl (wpAny_bind (wpAny_seqItems hI rfl ?_)))
  change wpAny _ _ (Builtin.SmallTypes.ownedTupleIsFree (.ref z) >>= _) _ _ _
  unfold Builtin.SmallTypes.ownedTupleIsFree
  refine wpAny_bind (wpAny_bind (wpAny_field hz rfl (x := .none) rfl (wpAny_pure ?_)))
  simp only [if_true]
  refine wpAny_bind (wpAny_rule (wpAny_bind (wpAny_field hz rfl (x := .ref TO) rfl (wpAny_bind (wpAny_setField_rec hz (by simp) fun ha za ea => ?_)))))
  replace za : IsZip ha z TI TO .ellipsis := za
  have ea' := ea.extBut
  simp only [List.zipIdx_cons, List.zipIdx_nil, List.forIn_cons, List.forIn_nil]
  refine wpAny_bind (wpAny_bind (wpAny_bind (wpAny_onRaise ?_)))
  change wpAny _ _ (Builtin.SmallTypes.nextOf (.ref i1) >>= _) _ _ _
  refine wpAny_bind (S1.item (s := { s with heap := ha }) (k1at ea' D.i1z D.l1z j1) hx fun hb jb eb => wpAny_pure ?_)
  have eb' := eb.extBut
  have ob : IsPair hb TO a b := eb' _ _ D.TOi1 (ea' _ _ D.TOz hO)
  refine wpAny_bind (wpAny_seqItems ob rfl (wpAny_bind (wpAny_updateSeq_pair ob fun hc oc ec => ?_)))
  replace oc : IsPair hc TO x b := oc
  have ec' := ec.extBut
  refine wpAny_bind (wpAny_letGo (wpAny_pure ?_))
  refine wpAny_bind (wpAny_bind (wpAny_onRaise ?_))
  change wpAny _ _ (Builtin.SmallTypes.nextOf (.ref i2) >>= _) _ _ _
  refine wpAny_bind (S2.item (s := { s with heap := hc }) (k2at ec' D.TOi2.symm D.l2TO (k2at eb' D.i12.symm D.l2i1 (k2at ea' D.i2z D.l2z j2))) hy fun hd jd ed => wpAny_pure ?_)
  have ed' := ed.extBut
  have od : IsPair hd TO x b := ed' _ _ D.TOi2 oc
  refine wpAny_bind (wpAny_seqItems od rfl (wpAny_bind (wpAny_updateSeq_pair od fun he oe ee => ?_)))
  replace oe : IsPair he TO x y := oe
  have ee' := ee.extBut
  refine wpAny_bind (wpAny_letGo (wpAny_pure (wpAny_pure ?_)))
  refine wpAny_bind (wpAny_seqItems oe rfl (wpAny_bind (wpAny_newTuple ?_)))
  have size : he.objs.size = s.heap.objs.size := by rw [ee.1, ed.1, ec.1, eb.1, ea.1]
  have ze : IsZip he z TI TO .ellipsis := ee' _ _ D.TOz.symm (ed' _ _ D.i2z.symm (ec' _ _ D.TOz.symm (eb' _ _ D.i1z.symm za)))
  have all : Zk z TO i1 i2 s.heap he := fun c o n1 n2 n3 n4 g => ee' _ _ n2 (ed' _ _ n4 (ec' _ _ n2 (eb' _ _ n3 (ea' _ _ n1 g))))
  have f1 : J1 (k1 + 1) he := k1at ee' D.TOi1.symm D.l1TO (k1at ed' D.i12 D.l1i2 (k1at ec' D.TOi1.symm D.l1TO jb))
  have f2 : J2 (k2 + 1) he := k2at ee' D.TOi2.symm D.l2TO jd
  have ltz : z < he.objs.size := Heap.lt_size ze
  change wpAny _ _ (Builtin.SmallTypes.ownedTupleHandOut (.ref z) (.ref he.objs.size) >>= _) _ _ _
  unfold Builtin.SmallTypes.ownedTupleHandOut
  have zf : IsZip (he.push { cls := .type "tuple", data := .seq #[x, y] }) z TI TO .ellipsis := Heap.get?_push_of_some _ ze
  refine wpAny_bind (wpAny_bind (wpAny_setField_rec zf (by simp) fun hg zg eg => ?_))
  replace zg : IsZip hg z TI TO (rawInt he.objs.size) := zg
  refine wpAny_setField_rec zg (by simp) fun hh zh eh => wpAny_pure ⟨_, rfl, ?_⟩
  replace zh : IsZip hh z TI TO (rawInt he.objs.size) := zh
  have fin : ∀ c o, c ≠ z → (he.push { cls := .type "tuple", data := .seq #[x, y] }).get? c = some o → hh.get? c = some o := fun c o n g => eh.extBut _ _ n (eg.extBut _ _ n g)
  have up : ∀ c o, c ≠ z → he.get? c = some o → hh.get? c = some o := fun c o n g => fin c o n (Heap.get?_push_of_some _ g)
  have tup : IsPair hh he.objs.size x y := fin _ _ (Nat.ne_of_gt ltz) (Heap.get?_push_size _ rfl)
  have sz : hh.objs.size = he.objs.size + 1 := by rw [eh.1, eg.1, Heap.size_push]
  rw [size] at zh tup sz
  change Q (.ref he.objs.size) _
  rw [size]
  exact q hh zh (up _ _ D.TOz oe) (S1.keep f1 fun c o hc g => up c o (by rcases hc with rfl | rfl; exact D.i1z; exact D.l1z) g) (S2.keep f2 fun c o hc g => up c o (by rcases hc with rfl | rfl; exact D.i2z; exact D.l2z) g) tup sz
    fun c o n1 n2 n3 n4 g => up c o n1 (all c o n1 n2 n3 n4 g)
theorem zip_over (hn : A.handled = none) (D : ZipApart z TI TO i1 i2 l1 l2) (S1 : Src i1 l1 xs J1) (S2 : Src i2 l2 ys J2) {Q : Fin → Shared → Prop} (hz : IsZip s.heap z TI TO .none) (hI : IsPair s.heap TI (.ref i1) (.ref i2)) (hO : IsPair s.heap TO a b)
    (j1 : J1 k1 s.heap) (j2 : J2 k2 s.heap) (out : xs[k1]? = none ∨ ys[k2]? = none)
    (q : ∀ h' e, Zk z TO i1 i2 s.heap h' → (∃ o, h'.get? e = some o ∧ o.cls = .type "StopIteration") → E (.ref e) { s with heap := h' }) : wpAny (model P w) A (Builtin.«zip.__next__» ⟨[.ref z], []⟩) Q E s := by
  have k1at : ∀ {n : Nat} {h h' : Heap} {c : Addr}, Heap.ExtBut c h h' → i1 ≠ c → l1 ≠ c → J1 n h → J1 n h' := fun e n1 n2 j => S1.keep j fun d o hd g => e d o (by rcases hd with rfl | rfl <;> assumption) g
  have k2at : ∀ {n : Nat} {h h' : Heap} {c : Addr}, Heap.ExtBut c h h' → i2 ≠ c → l2 ≠ c → J2 n h → J2 n h' := fun e n1 n2 j => S2.keep j fun d o hd g => e d o (by rcases hd with rfl | rfl <;> assumption) g
  change wpAny _ _ (field (.ref z) 2 >>= _) _ _ _
  refine wpAny_bind (wpAny_field hz rfl (x := .bool false) rfl ?_)
  change wpAny _ _ (field (.ref z) 3 >>= _) _ _ _
  refine wpAny_bind (wpAny_field hz rfl (x := .ref TI) rfl (wpAny_bind (wpAny_seqItems hI rfl ?_)))
  change wpAny _ _ (Builtin.SmallTypes.ownedTupleIsFree (.ref z) >>= _) _ _ _
  unfold Builtin.SmallTypes.ownedTupleIsFree
  refine wpAny_bind (wpAny_bind (wpAny_field hz rfl (x := .none) rfl (wpAny_pure ?_)))
  simp only [if_true]
  refine wpAny_bind (wpAny_rule (wpAny_bind (wpAny_field hz rfl (x := .ref TO) rfl (wpAny_bind (wpAny_setField_rec hz (by simp) fun ha za ea => ?_)))))
  replace za : IsZip ha z TI TO .ellipsis := za
  have ea' := ea.extBut
  simp only [List.zipIdx_cons, List.zipIdx_nil, List.forIn_cons, List.forIn_nil]
  refine wpAny_bind (wpAny_bind (wpAny_bind (wpAny_onRaise ?_)))
  change wpAny _ _ (Builtin.SmallTypes.nextOf (.ref i1) >>= _) _ _ _
  have ze : ∀ {h : Heap} {e : Addr} {o : Obj}, IsZip h z TI TO .ellipsis → h.get? e = some o → o.cls = .type "StopIteration" → e ≠ z := fun {h e o} g g' gc x => by
    rw [x, g] at g'
    cases g'
    simp at gc
  by_cases hx : xs[k1]? = none
  · refine wpAny_bind (S1.done (s := { s with heap := ha }) hn (k1at ea' D.i1z D.l1z j1) hx fun hb e eb he => ?_)
    obtain ⟨oe, g, gc⟩ := he
    have zb : IsZip hb z TI TO .ellipsis := eb _ _ D.i1z.symm za
    exact wpAny_setField_rec zb (by simp) fun hc _ ec => q hc e (fun c o n1 _ n3 _ g' => ec.extBut _ _ n1 (eb _ _ n3 (ea' _ _ n1 g'))) ⟨oe, ec.extBut _ _ (ze zb g gc) g, gc⟩
  · obtain ⟨x, hx⟩ : ∃ x, xs[k1]? = some x := Option.ne_none_iff_exists'.mp hx
    have hy : ys[k2]? = none := out.resolve_left (by rw [hx]; simp)
    refine wpAny_bind (S1.item (s := { s with heap := ha }) (k1at ea' D.i1z D.l1z j1) hx fun hb jb eb => wpAny_pure ?_)
    have eb' := eb.extBut
    have ob : IsPair hb TO a b := eb' _ _ D.TOi1 (ea' _ _ D.TOz hO)
    refine wpAny_bind (wpAny_seqItems ob rfl (wpAny_bind (wpAny_updateSeq_pair ob fun hc oc ec => ?_)))
    have ec' := ec.extBut
    refine wpAny_bind (wpAny_letGo (wpAny_pure ?_))
    refine wpAny_bind (wpAny_bind (wpAny_onRaise ?_))
    change wpAny _ _ (Builtin.SmallTypes.nextOf (.ref i2) >>= _) _ _ _
    refine wpAny_bind (S2.done (s := { s with heap := hc }) hn (k2at ec' D.TOi2.symm D.l2TO (k2at eb' D.i12.symm D.l2i1 (k2at ea' D.i2z D.l2z j2))) hy fun hd e ed he => ?_)
    obtain ⟨oe, g, gc⟩ := he
    have zd : IsZip hd z TI TO .ellipsis := ed _ _ D.i2z.symm (ec' _ _ D.TOz.symm (eb' _ _ D.i1z.symm za))
    exact wpAny_setField_rec zd (by simp) fun hf _ ef => q hf e (fun c o n1 n2 n3 n4 g' => ef.extBut _ _ n1 (ed _ _ n4 (ec' _ _ n2 (eb' _ _ n3 (ea' _ _ n1 g'))))) ⟨oe, ef.extBut _ _ (ze zd g gc) g, gc⟩
theorem next_more (D : ZipApart z TI TO i1 i2 l1 l2) (S1 : Src i1 l1 xs J1) (S2 : Src i2 l2 ys J2) {x y : Value} {Q : Option Value → Shared → Prop} (hz : IsZip s.heap z TI TO .none) (hI : IsPair s.heap TI (.ref i1) (.ref i2)) (hO : IsPair s.heap TO a b)
    (j1 : J1 k1 s.heap) (j2 : J2 k2 s.heap) (hx : xs[k1]? = some x) (hy : ys[k2]? = some y)
    (q : ∀ h', IsZip h' z TI TO (rawInt s.heap.objs.size) → IsPair h' TO x y → J1 (k1 + 1) h' → J2 (k2 + 1) h' → IsPair h' s.heap.objs.size x y → h'.objs.size = s.heap.objs.size + 1 → Zk z TO i1 i2 s.heap h' → Q (some (.ref s.heap.objs.size)) { s with heap := h' }) :
    wpAny (model P w) A (pyNext (.ref z)) Q E s := by
  have ty : s.TypeIs (.ref z) "zip" := ⟨_, hz, rfl⟩
  unfold pyNext
  refine wpAny_bind (wpAny_attempt (wpAny_callSpecial?_slot (name := Str.ofString "__next__") ty F.slot_zip_next (wpAny_call_entry F.slot_zip_next ty F.entry_zip_next (zip_more D S1 S2 hz hI hO j1 j2 hx hy fun h' r1 r2 r3 r4 r5 r6 r7 => ?_) (F.args_zip_next_1 _))))
  exact wpAny_pure (q h' r1 r2 r3 r4 r5 r6 r7)
theorem next_over (hn : A.handled = none) (D : ZipApart z TI TO i1 i2 l1 l2) (S1 : Src i1 l1 xs J1) (S2 : Src i2 l2 ys J2) {Q : Option Value → Shared → Prop} (hz : IsZip s.heap z TI TO .none) (hI : IsPair s.heap TI (.ref i1) (.ref i2)) (hO : IsPair s.heap TO a b)
    (j1 : J1 k1 s.heap) (j2 : J2 k2 s.heap) (out : xs[k1]? = none ∨ ys[k2]? = none) (q : ∀ h', Zk z TO i1 i2 s.heap h' → Q none { s with heap := h' }) : wpAny (model P w) A (pyNext (.ref z)) Q E s := by
  have ty : s.TypeIs (.ref z) "zip" := ⟨_, hz, rfl⟩
  unfold pyNext
  refine wpAny_bind (wpAny_attempt (wpAny_callSpecial?_slot (name := Str.ofString "__next__") ty F.slot_zip_next (wpAny_call_entry F.slot_zip_next ty F.entry_zip_next (zip_over (A := A.in1) (show A.in1.handled = none from hn) D S1 S2 hz hI hO j1 j2 out fun h' e k he => ?_) (F.args_zip_next_1 _))))
  obtain ⟨o, g, gc⟩ := he
  exact wpAny_bind (wpAny_isInstance (T := "StopIteration") (b := true) ⟨o, g, gc⟩ isSubtype_stop (wpAny_pure (q _ k)))
end
/-! zip(t, l), t a tuple and l a list -/
def tupIt (l : Addr) : Obj := { cls := .type "tuple_iterator", data := .fields #[.ref l, .int 0 0] }
def lstIt (l : Addr) : Obj := { cls := .type "list_iterator", data := .fields #[.ref l, .int 0 0] }
def zip1 (h : Heap) (l1 : Addr) : Heap := h.push (tupIt l1)
def zip2 (h : Heap) (l1 l2 : Addr) : Heap := (zip1 h l1).push (lstIt l2)
def zip3 (h : Heap) (l1 l2 : Addr) : Heap := (zip2 h l1 l2).push { cls := .type "tuple", data := .seq #[.ref h.objs.size, .ref (zip1 h l1).objs.size] }
def zip4 (h : Heap) (l1 l2 : Addr) : Heap := (zip3 h l1 l2).push { cls := .type "tuple", data := .seq #[.none, .none] }
def zip5 (h : Heap) (l1 l2 : Addr) : Heap := (zip4 h l1 l2).push { cls := .type "zip", data := .fields #[.none, .bool false, .bool false, .ref (zip2 h l1 l2).objs.size, .ref (zip3 h l1 l2).objs.size] }
theorem zip_makes (l1 l2 : Addr) (xs ys : Array Value) : Meets (Builtin.«zip.__new__» ⟨[.type "zip", .ref l1, .ref l2], []⟩) (fun _ R s => s.heap.IsTuple l1 xs ∧ s.heap.IsList l2 ys ∧ R (.ok (.ret (.ref (zip4 s.heap l1 l2).objs.size))) { s with heap := zip5 s.heap l1 l2 }) := by
  refine .of_wp fun prog w A R s h => ?_
  obtain ⟨hp, g, d, tk, os⟩ := s
  obtain ⟨a1, a2, h⟩ := h
  have sub := sub_zip
  have b1 : Heap.IsTuple (Shared.heap ⟨hp, g, d, tk, os⟩) l1 xs := a1
  have b2 : Heap.IsList (Shared.heap ⟨hp.push { cls := .type "tuple_iterator", data := .fields #[.ref l1, .int 0 0] }, g, d, tk, os⟩) l2 ys := Heap.IsList.push a2 _
  wp_walk using wpAny_pyIter_tuple b1, wpAny_pyIter_list b2
  exact ⟨_, rfl, h⟩
theorem call_zipM {P : Program} {w : World} {A : Around} {E : Value → Shared → Prop} {s : Shared} {l1 l2 : Addr} {xs ys : Array Value} {Q : Value → Shared → Prop} (h1 : s.heap.IsTuple l1 xs) (h2 : s.heap.IsList l2 ys)
    (q : ∀ h', IsZip h' (s.heap.objs.size + 4) (s.heap.objs.size + 2) (s.heap.objs.size + 3) .none → IsPair h' (s.heap.objs.size + 2) (.ref s.heap.objs.size) (.ref (s.heap.objs.size + 1)) → IsPair h' (s.heap.objs.size + 3) .none .none →
      h'.IsTupleIter s.heap.objs.size l1 0 → h'.IsListIter (s.heap.objs.size + 1) l2 0 → (∀ c o, s.heap.get? c = some o → h'.get? c = some o) → Q (.ref (s.heap.objs.size + 4)) { s with heap := h' }) :
    wpAny (model P w) A (call (.type "zip") [.ref l1, .ref l2]) Q E s := by
  refine callType_new F.called_zip (by decide) (F.typeCall_zip_2 _ _) (F.newCall_zip_2 _ _) (fun obj => F.args_object_init_3 obj _ _) F.entry_zip_new (zip_makes l1 l2 xs ys) ⟨h1, h2, ?_⟩
  have n1 : (zip1 s.heap l1).objs.size = s.heap.objs.size + 1 := Heap.size_push ..
  have n2 : (zip2 s.heap l1 l2).objs.size = s.heap.objs.size + 2 := (Heap.size_push ..).trans (congrArg (· + 1) n1)
  have n3 : (zip3 s.heap l1 l2).objs.size = s.heap.objs.size + 3 := (Heap.size_push ..).trans (congrArg (· + 1) n2)
  have n4 : (zip4 s.heap l1 l2).objs.size = s.heap.objs.size + 4 := (Heap.size_push ..).trans (congrArg (· + 1) n3)
  have on : ∀ {h : Heap} {o : Obj} {c : Addr} {u : Obj}, h.get? c = some u → (h.push o).get? c = some u := fun g => Heap.get?_push_of_some _ g
  have e1 : (zip5 s.heap l1 l2).get? s.heap.objs.size = some (tupIt l1) := on (on (on (on (Heap.get?_push_size _ rfl))))
  have e2 : (zip5 s.heap l1 l2).get? (zip1 s.heap l1).objs.size = some (lstIt l2) := on (on (on (Heap.get?_push_size _ rfl)))
  have e3 : IsPair (zip5 s.heap l1 l2) (zip2 s.heap l1 l2).objs.size (.ref s.heap.objs.size) (.ref (zip1 s.heap l1).objs.size) := on (on (Heap.get?_push_size _ rfl))
  have e4 : IsPair (zip5 s.heap l1 l2) (zip3 s.heap l1 l2).objs.size .none .none := on (Heap.get?_push_size _ rfl)
  have e5 : IsZip (zip5 s.heap l1 l2) (zip4 s.heap l1 l2).objs.size (zip2 s.heap l1 l2).objs.size (zip3 s.heap l1 l2).objs.size .none := Heap.get?_push_size _ rfl
  rw [n4, n2, n3] at e5
  rw [n2, n1] at e3
  rw [n3] at e4
  rw [n1] at e2
  show _ ∧ _
  rw [n4]
  exact ⟨⟨_, e5, rfl⟩, q _ e5 e3 e4 ⟨_, e1, rfl, rfl⟩ ⟨_, e2, rfl, rfl⟩ fun c o g => on (on (on (on (on g))))⟩
/-- the tuple at a and the list at b as they stand at each turn -/
def ItzM (K : PySem.W.Frag) (a b : Addr) : It where
  go := fun i H => ∃ (xs ys : List V) (x y : V), SqT K H a xs ∧ SqL K H b ys ∧ xs[i]? = some x ∧ ys[i]? = some y
  yld := fun i H v H' => ∃ T x y, v = .ref T ∧ H T = none ∧ H' = upd H T (.tup [x, y]) ∧ (∀ xs, SqT K H a xs → xs[i]? = some x) ∧ ∀ ys, SqL K H b ys → ys[i]? = some y
  stop := fun i H => ∃ xs ys : List V, SqT K H a xs ∧ SqL K H b ys ∧ (xs.length ≤ i ∨ ys.length ≤ i)
def zfp (z TI TO i1 i2 : Addr) : List Addr := [z, TI, TO, i1, i2]
theorem zfp_at {z TI TO i1 i2 c : Addr} (h : c ∈ zfp z TI TO i1 i2) : c = z ∨ c = TI ∨ c = TO ∨ c = i1 ∨ c = i2 := by simpa [zfp] using h
theorem zfp_of {z TI TO i1 i2 c : Addr} (h : c = z ∨ c = TI ∨ c = TO ∨ c = i1 ∨ c = i2) : c ∈ zfp z TI TO i1 i2 := by simpa [zfp] using h
def ZAt (z TI TO i1 i2 a b : Addr) (k : Nat) (h : Heap) : Prop := IsZip h z TI TO .none ∧ IsPair h TI (.ref i1) (.ref i2) ∧ (∃ x y, IsPair h TO x y) ∧ h.IsTupleIter i1 a k ∧ h.IsListIter i2 b k
theorem turn_zipM {P : Program} {w : World} {K : PySem.W.Frag} {elts : List Expr} {kk : Nat} {tpos : Pos} {a b z TI TO i1 i2 : Addr} (D : ZipApart z TI TO i1 i2 a b) : Turn P w K (.Tuple elts kk tpos) (ItzM K a b) (zfp z TI TO i1 i2) z (ZAt z TI TO i1 i2 a b) where
  mem := zfp_of (.inl rfl)
  obj := by
    rintro k h ⟨g1, g2, ⟨x, y, g3⟩, ⟨o1, g4, _, d4⟩, ⟨o2, g5, _, d5⟩⟩ c hc
    rcases zfp_at hc with rfl | rfl | rfl | rfl | rfl
    · exact ⟨_, g1, fun v e => by cases e⟩
    · exact ⟨_, g2, fun v e => by cases e⟩
    · exact ⟨_, g3, fun v e => by cases e⟩
    · exact ⟨o1, g4, fun v e => by rw [d4] at e; cases e⟩
    · exact ⟨o2, g5, fun v e => by rw [d5] at e; cases e⟩
  keep := by
    rintro k h h' ⟨g1, g2, ⟨x, y, g3⟩, g4, g5⟩ f
    exact ⟨f _ (zfp_of (.inl rfl)) _ g1, f _ (zfp_of (.inr (.inl rfl))) _ g2, ⟨x, y, f _ (zfp_of (.inr (.inr (.inl rfl)))) _ g3⟩, g4.at fun o e => f _ (zfp_of (.inr (.inr (.inr (.inl rfl))))) o e, g5.at fun o e => f _ (zfp_of (.inr (.inr (.inr (.inr rfl))))) o e⟩
  item := by
    rintro X rfl rfl rfl hc k pins s σ H E I hf ⟨g1, g2, ⟨x0, y0, g3⟩, g4, g5⟩ ⟨xs, ys, x, y, qx, qy, hx, hy⟩
    obtain ⟨us, ru, tu, _⟩ := I.tuple qx
    obtain ⟨vs, rv, lv, _⟩ := I.list qy
    obtain ⟨u, hu, ux⟩ := ru.get hx
    obtain ⟨v, hv, vy⟩ := rv.get hy
    have hzl : z < s.heap.objs.size := Heap.lt_size g1
    refine next_more D (src_tup D.l1i1) (src_lst D.l2i2) g1 g2 g3 ⟨g4, tu⟩ ⟨g5, lv.isList⟩ (x := u) (y := v) (by simpa using hu) (by simpa using hv) fun h' r1 r2 r3 r4 r5 r6 r7 => ?_
    refine ⟨_, rfl, wpAny_letOwnedTupleGo_zip (s := { s with heap := h' }) r1 fun h2 z2 sb => ?_⟩
    have tp : h2.get? s.heap.objs.size = some { cls := .type "tuple", data := .seq #[u, v] } := (sb.2 _ (Nat.ne_of_gt hzl)).trans r5
    have ob : ObjOk X.prog X.w (upd H s.heap.objs.size (.tup [x, y])) h2 s.heap.objs.size (.tup [x, y]) := ⟨by show 2 ≤ sizeLine; decide, [u, v], .cons ux (.cons vy .nil), ⟨_, tp, rfl, _, rfl⟩⟩
    have far : ∀ c o, c ∉ zfp z TI TO i1 i2 → s.heap.get? c = some o → h2.get? c = some o := fun c o n e =>
      (sb.2 c fun e' => n (zfp_of (.inl e'))).trans (r7 c o (fun e' => n (zfp_of (.inl e'))) (fun e' => n (zfp_of (.inr (.inr (.inl e'))))) (fun e' => n (zfp_of (.inr (.inr (.inr (.inl e')))))) (fun e' => n (zfp_of (.inr (.inr (.inr (.inr e')))))) e)
    have I2 : Inv X pins σ (upd H s.heap.objs.size (.tup [x, y])) { s with heap := h2 } := I.turnedNew (t' := s.toks) (ch := zfp z TI TO i1 i2) far hf (Nat.le_refl _) ob
    refine ⟨.ref s.heap.objs.size, _, I2, rfl, ⟨_, x, y, rfl, I.hok.fresh (Nat.le_refl _), rfl, fun l hl => by rw [I.tuple_inj hl qx]; exact hx, fun l hl => by rw [I.list_inj hl qy]; exact hy⟩, ⟨z2, ?_, ⟨u, v, ?_⟩, ?_, ?_⟩, fun c hcm => ?_⟩
    · exact (sb.2 _ D.TIz).trans (r7 _ _ D.TIz D.TITO D.TIi1 D.TIi2 g2)
    · exact (sb.2 _ D.TOz).trans r2
    · exact r3.1.at fun o q => (sb.2 _ D.i1z).trans q
    · exact r4.1.at fun o q => (sb.2 _ D.i2z).trans q
    · have lt : c < s.heap.objs.size := by
        rcases zfp_at hcm with rfl | rfl | rfl | rfl | rfl
        · exact hzl
        · exact Heap.lt_size g2
        · exact Heap.lt_size g3
        · obtain ⟨_, e, _⟩ := g4
          exact Heap.lt_size e
        · obtain ⟨_, e, _⟩ := g5
          exact Heap.lt_size e
      rw [upd_ne (Nat.ne_of_lt lt)]
      exact (hf c hcm).1
  done := by
    rintro X rfl rfl rfl hc k pins s σ H E I hf ⟨g1, g2, ⟨x0, y0, g3⟩, g4, g5⟩ ⟨xs, ys, qx, qy, fin⟩
    obtain ⟨us, ru, tu, _⟩ := I.tuple qx
    obtain ⟨vs, rv, lv, _⟩ := I.list qy
    have e1 := ru.length
    have e2 := rv.length
    refine next_over (I.ok.hd hc) D (src_tup D.l1i1) (src_lst D.l2i2) g1 g2 g3 ⟨g4, tu⟩ ⟨g5, lv.isList⟩ (fin.imp (fun q => by simp; omega) fun q => by simp; omega) fun h' r => ⟨rfl, ?_⟩
    exact I.turnedL (t' := s.toks) (ch := zfp z TI TO i1 i2) (fun c o n e => r c o (fun e' => n (zfp_of (.inl e'))) (fun e' => n (zfp_of (.inr (.inr (.inl e'))))) (fun e' => n (zfp_of (.inr (.inr (.inr (.inl e')))))) (fun e' => n (zfp_of (.inr (.inr (.inr (.inr e')))))) e) hf
  self := fun A k s Q E st h => wpAny_pyIter_zip st.1 h
def iZipM (K : PySem.W.Frag) (ta : TA) : TI := fun σ H R => ta σ H fun vs H1 => ∃ a b xs ys, vs = [.ref a, .ref b] ∧ SqT K H1 a xs ∧ SqL K H1 b ys ∧ R (ItzM K a b) H1
theorem pi_zipM {X : Cx} {e e2 : Expr} {ta : TA} {p pos tpos : Pos} {elts : List Expr} {kk : Nat} (hg : Gl X "zip") (hm : X.mg "zip" = none) (ha : PA X [e, e2] ta)
    (hs : starEach [e, e2] X.env = (false, eval e X.env) :: starEach [e2] X.env := by rfl) (hpl : (backTo pos (starEach [e2] X.env)).any (·.1) = false := by rfl) : PI X (.Tuple elts kk tpos) (.Call (.Name "zip" p) [e, e2] [] pos) (iZipM X.K ta) := by
  constructor
  intro pins s σ H R I h
  refine Call_ (ld_blt I hg hm PyProof.Rows.boot_zip (PyProof.Rows.callWith_type1 (thn (ha.run pos pins s σ H _ I h) fun us s1 hq => ?_) hs hpl))
  obtain ⟨_, H1, I1, r1, a, b, xs, ys, rfl, qx, qy, q⟩ := hq
  obtain ⟨u1, ur, rfl, ra, r1⟩ : ∃ u1 ur, us = u1 :: ur ∧ RelV (.ref a) u1 ∧ Vals [.ref b] ur := by
    cases r1 with
    | cons r rr => exact ⟨_, _, rfl, r, rr⟩
  obtain ⟨u2, rfl, rb⟩ := vals1 r1
  cases ra
  cases rb
  obtain ⟨us', ru, tu, _⟩ := I1.tuple qx
  obtain ⟨vs', rv, lv, _⟩ := I1.list qy
  obtain ⟨o1, ho1, _⟩ := id tu
  refine call_zipM tu lv.isList fun h' z1 z2 z3 z4 z5 kp => wpAny_pyIter_zip z1 ?_
  refine ⟨s1.heap.objs.size + 4, zfp (s1.heap.objs.size + 4) (s1.heap.objs.size + 2) (s1.heap.objs.size + 3) s1.heap.objs.size (s1.heap.objs.size + 1), _, _, H1, rfl, I1.kept (t' := s1.toks) kp, turn_zipM (PySem.W.ktu_apart s1.heap.objs.size a b (Heap.lt_size ho1) lv.lt), ⟨z1, z2, ⟨_, _, z3⟩, z4, z5⟩, fun c hc => ?_, q⟩
  have le : s1.heap.objs.size ≤ c := by
    rcases zfp_at hc with rfl | rfl | rfl | rfl | rfl <;> omega
  exact I1.fpOk le (I1.hok.fresh le)
theorem for_zipM {K : PySem.W.Frag} {a b : Addr} {xs ys : List V} {g : TG} {tb : TS} {D : Ends} {σ : L2.St} {H : Hp} (hl : xs.length = ys.length) (Pv : Nat → L2.St → Hp → Prop) (h0 : Pv 0 σ H) (hq : ∀ i σ H, Pv i σ H → SqT K H a xs ∧ SqL K H b ys)
    (hs : ∀ (i : Nat) (x y : V) (T : Addr) (σ : L2.St) (H : Hp), xs[i]? = some x → ys[i]? = some y → Pv i σ H → H T = none → g (.ref T) σ (upd H T (.tup [x, y])) fun σ2 H2 => tb { D with nx := Pv (i + 1), ct := Pv (i + 1), bk := D.nx } σ2 H2) (hd : ∀ σ H, Pv xs.length σ H → D.nx σ H) :
    ∃ W : Nat → Nat → L2.St → Hp → Prop, (∃ m, W 0 m σ H) ∧ ∀ i m σ H, W i m σ H →
      ((ItzM K a b).stop i H ∧ D.nx σ H) ∨ ((ItzM K a b).go i H ∧ ∃ N : L2.St → Hp → Prop, (∀ σ' H', N σ' H' → ∃ m', m' < m ∧ W (i + 1) m' σ' H') ∧ ∀ v H', (ItzM K a b).yld i H v H' → g v σ H' fun σ2 H2 => tb { D with nx := N, ct := N, bk := D.nx } σ2 H2) := by
  refine ⟨fun i m σ H => i + m = xs.length ∧ Pv i σ H, ⟨xs.length, Nat.zero_add _, h0⟩, fun i m σ H hw => ?_⟩
  obtain ⟨hm, p⟩ := hw
  obtain ⟨qx, qy⟩ := hq i σ H p
  cases m with
  | zero =>
    have e : i = xs.length := hm
    exact .inl ⟨⟨xs, ys, qx, qy, .inl (by omega)⟩, hd σ H (by rw [← e]; exact p)⟩
  | succ m =>
    refine .inr ⟨⟨xs, ys, _, _, qx, qy, List.getElem?_eq_getElem (by omega), List.getElem?_eq_getElem (by omega)⟩, Pv (i + 1), fun σ' H' p' => ⟨m, Nat.lt_succ_self m, by omega, p'⟩, ?_⟩
    rintro _ _ ⟨T, x, y, rfl, hT, rfl, f1, f2⟩
    exact hs i x y T σ H (f1 xs qx) (f2 ys qy) p hT
end OGX
set_option Elab.async false
set_option linter.all false
set_option maxRecDepth 100000
set_option maxHeartbeats 4000000
namespace OGX
open PySem PySem.Spec PyProof.Rows L2
section
variable {X : Cx}
/-- repr of data at any depth -/
def rReprP (K : PySem.W.Frag) : List V → Hp → VK → Prop := fun xs H Q => ∃ (v : V) (d : PyData), xs = [v] ∧ Dp K H v d ∧ d.showable = true ∧ d.hasDict = false ∧ d.depth ≤ 60 ∧ d.shown.length ≤ sizeLine ∧ Q (.str d.shown) H
theorem call_reprP (hg : X.A.guards = some []) (hu : X.A.units + 64 < cLine) : CallR X (.builtin "repr") (rReprP X.K) := by
  intro pins s σ H xs us Q I r h
  obtain ⟨v, d, rfl, e, hs, hd, hp, hz, q⟩ := h
  obtain ⟨u, rfl, ru⟩ := vals1 r
  obtain ⟨as, R⟩ := Dp.reads I d v u e ru
  exact repr_go hg hu I R hs hd hp hz q
/-- x not in t, t a tuple of data -/
def rNotInT (K : PySem.W.Frag) : R2 := fun x y H Q => ∃ d ds, Dp K H x d ∧ Dp K H y (.tuple ds) ∧ SeqAt.shaped d = true ∧ SeqAt.shaped (.tuple ds) = true ∧ Q (.bl (!ds.any fun z => PyData.eqv z d)) H
theorem op_notInT (hu : X.A.units + 65 < cLine) : OpR X (compareOp .NotIn) (rNotInT X.K) := by
  intro pins s σ H x y v u Q I rx ry h
  obtain ⟨d, ds, hd, he, sd, se, q⟩ := h
  obtain ⟨as, r1⟩ := Dp.reads I d x v hd rx
  obtain ⟨bs, r2⟩ := Dp.reads I (.tuple ds) y u he ry
  exact SeqAt.notIn_tuple_reads r2 r1 (SeqAt.canLay_of_shaped se) (SeqAt.canLay_of_shaped sd) (PyProof.Rows.room_in_shaped sd hu) ⟨.bl _, H, I, rfl, q⟩
/-- what sorted makes of data -/
def sortD (ds : List PyData) : List PyData := ds.mergeSort (PySem.W.dataLe false id)
def rSortD (K : PySem.W.Frag) : List V → Hp → VK → Prop := fun vs H Q => ∃ (a : Addr) (xs : List V) (ds : List PyData), vs = [V.ref a] ∧ SqL K H a xs ∧ DpAll K H xs ds ∧ PySem.W.AllAlike ds ∧ PySem.W.Sortable ds ∧ (∀ d ∈ ds, d.depth ≤ 50) ∧
  ∀ (ys : List V) (p : Addr), DpAll K H ys (sortD ds) → H p = none → Q (.ref p) (upd H p (.lst ys))
theorem each_of {K : PySem.W.Frag} {H : Hp} : ∀ {xs : List V} {us : List Value} {ds : List PyData}, Vals xs us → DpAll K H xs ds → PySem.W.EachIs (fun v d => ∃ x, RelV x v ∧ Dp K H x d) us ds
  | _, _, _, .nil, .nil => .nil
  | _, _, _, .cons r t, .cons p q => .cons ⟨_, r, p⟩ (each_of t q)
theorem of_each {K : PySem.W.Frag} {H : Hp} : ∀ {us : List Value} {ds : List PyData}, PySem.W.EachIs (fun v d => ∃ x, RelV x v ∧ Dp K H x d) us ds → ∃ ys, Vals ys us ∧ DpAll K H ys ds
  | _, _, .nil => ⟨[], .nil, .nil⟩
  | _, _, .cons ⟨x, r, p⟩ t => by
    obtain ⟨ys, a, b⟩ := of_each t
    exact ⟨x :: ys, .cons r a, .cons p b⟩
theorem cr_sortD (hu : X.A.units + 64 < cLine) : CallR X (.builtin "sorted") (rSortD X.K) := by
  intro pins s σ H vs us Q I r h
  obtain ⟨a, xs, ds, rfl, hs, hd, hal, hk, hp, q⟩ := h
  obtain ⟨its, rv, hl, hz⟩ := I.list hs
  rw [Vals.ref1 r]
  have e := each_of rv hd
  have hlen : ds.length = its.length := (PySem.W.EachIs.length e).symm
  refine PySem.W.sorted_data (enc := id) hl.isList e (e.mono fun v d ⟨x, rx, dx⟩ => Dp.reads I d x v dx rx) (by rw [List.map_id]; exact hal) (by rw [List.map_id]; exact hk) (by rw [hlen, ← rv.length]; exact hz) (fun d hm => by have := hp d hm; show X.A.units + 2 + d.depth < cLine; omega) fun out h1 h2 => ?_
  obtain ⟨ep, he⟩ := PyProof.Rows.sortedAll_at s.heap its out.toArray
  obtain ⟨ys, ry, dy⟩ := of_each h2
  refine ⟨.ref _, upd H (s.heap.objs.size + 1) (.lst ys), I.laid (t' := s.toks) (fun _ _ => PyProof.Rows.sortedAll_old) (Nat.le_succ _) ⟨?_, out, ep, ry, he⟩, rfl, q ys _ dy (I.hok.fresh (Nat.le_succ _))⟩
  rw [ry.length, h1, hlen, ← rv.length]
  exact hz
end
section
variable {X : Cx} {CX : CXT} {k : Nat} {f : Addr} {fd : FuncData} {ps ks : List Str} {sp : Sp} {E : XK} {x : Str} {p pos : Pos} {kws : List Keyword} {tk : TA} {g : List Value → List Value → List Value} {gV : List V → List V → List V}
/-- f(k = v, ..) -/
theorem pe_callK0 (F : FnOk X.prog X.w X.K X.mg X.base CX k f fd ps sp) (hr : Room k X.A) (hg : Gl X x) (hm : X.mg x = some (.ref f)) (hk : PySem.W.keepIn X.K (.ref f) = true) (hb : KBinds X.K fd ps ks g gV) (hx : Passes CX X E) (hkw : PK X kws tk)
    (hall : (backToKw pos (keywordEach kws X.env)).all (·.1.isSome) = true := by rfl) (hks : (backToKw pos (keywordEach kws X.env)).filterMap (·.1) = ks := by rfl) (hdb : (x == ("__debug__" : Str)) = false := by decide)
    (hpl : ((backTo pos (starEach [] X.env)).any (·.1) || (backToKw pos (keywordEach kws X.env)).any (·.1.isNone)) = false := by rfl) : PE X (.Call (.Name x p) [] kws pos) (tCallK sp gV E tNil tk) := by
  refine ⟨fun pins s σ H Q I h => wpAny_Call_Name_kw (ld_glob I hg hm ?_ hdb)⟩
  refine PySem.W.callWith_KW0 (h₀ := X.base) I.ok.mod.kin hk hall (thn (hkw.run pos pins s σ H _ I h) fun ws s2 ⟨zs, H2, I2, rz, q2⟩ => ⟨I2.kIn, ?_⟩) hpl
  rw [hks]
  exact run_fnk (us := []) (vs := []) F hr hb hx I2 .nil rz q2
end
end OGX
set_option Elab.async false
set_option linter.all false
set_option maxRecDepth 100000
set_option maxHeartbeats 4000000
namespace OGX
open PySem PySem.Spec PyProof.Rows L2
/-- data that a law may hand about: small dicts at the top, else None, truth values, ints, texts, lists and tuples of these -/
def ShD (K : PySem.W.Frag) (H : Hp) (v : V) (d : PyData) : Prop := (Dp K H v d ∧ d.hasDict = false) ∨ (∃ a, v = .ref a ∧ ((H a = some (.dK []) ∧ d = .dict []) ∨ ∃ (k : Str) (i : Int), H a = some (.dK [(.inr k, .int i)]) ∧ d = .dict [(.str k, .int i)]))
section
variable {X : Cx}
theorem dict_reads {pins : List (Addr × Obj)} {σ : L2.St} {H : Hp} {s : Shared} {a : Addr} (I : Inv X pins σ H s) {kvs : List (Key × V)} (h : H a = some (.dK kvs)) {d : PyData} (hd : (kvs = [] ∧ d = .dict []) ∨ ∃ (k : Str) (i : Int), kvs = [(.inr k, .int i)] ∧ d = .dict [(.str k, .int i)]) : a ≠ sysModules ∧ Reads s.heap (.ref a) d [a] := by
  obtain ⟨_, e, vs, kv, o, es, ep, g, x, hd', _, pr, _⟩ := (show ObjOk X.prog X.w H s.heap a (.dK kvs) from I.hok a _ h)
  refine ⟨fun z => by rw [z] at e; simp at e, ?_⟩
  rcases hd with ⟨rfl, rfl⟩ | ⟨k, i, rfl, rfl⟩
  · cases kv
    have el : es.toList = [] := by
      generalize es.toList = l at pr
      cases pr
      rfl
    exact .dict (as := []) (bs := []) g x.1 hd' (by rw [el]; exact .nil) (by rw [el]; exact .nil)
  · cases kv with
    | cons q t =>
      cases t
      obtain ⟨q1, t2, q2⟩ := q
      have el : ∃ en : DictEntry, es.toList = [en] ∧ keyIs (.inr k) en.key = true ∧ en.val = .int i t2 := by
        generalize es.toList = l at pr
        cases pr with
        | cons hk hv r =>
          cases r
          refine ⟨_, rfl, ?_, ?_⟩
          · have hk : keyIs _ _ = true := hk
            rw [← q1] at hk
            exact hk
          · exact hv.trans q2
      obtain ⟨en, el, ek, ev⟩ := el
      obtain ⟨t3, e3⟩ := Value.isStrOf_shape (x := k) (v := en.key) ek
      refine .dict (as := []) (bs := []) g x.1 hd' ?_ ?_
      · rw [el]
        show ReadsAll s.heap [en.key] [.str k] []
        rw [e3]
        exact .cons (.str k t3) .nil
      · rw [el]
        show ReadsAll s.heap [en.val] [.int i] []
        rw [ev]
        exact .cons (.int i t2) .nil
def rReprV (K : PySem.W.Frag) : List V → Hp → VK → Prop := fun xs H Q => ∃ (v : V) (d : PyData), xs = [v] ∧ ShD K H v d ∧ d.showable = true ∧ d.depth ≤ 60 ∧ d.shown.length ≤ sizeLine ∧ Q (.str d.shown) H
theorem call_reprV (hg : X.A.guards = some []) (hu : X.A.units + 64 < cLine) : CallR X (.builtin "repr") (rReprV X.K) := by
  intro pins s σ H xs us Q I r h
  obtain ⟨v, d, rfl, e, hs, hp, hz, q⟩ := h
  obtain ⟨u, rfl, ru⟩ := vals1 r
  rcases e with ⟨e, hd⟩ | ⟨a, rfl, e⟩
  · obtain ⟨as, R⟩ := Dp.reads I d v u e ru
    exact repr_go hg hu I R hs hd hp hz q
  · cases ru
    obtain ⟨ns, R⟩ : a ≠ sysModules ∧ Reads s.heap (.ref a) d [a] := by
      rcases e with ⟨h, rfl⟩ | ⟨k, i, h, rfl⟩
      · exact dict_reads I h (.inl ⟨rfl, rfl⟩)
      · exact dict_reads I h (.inr ⟨k, i, rfl, rfl⟩)
    refine repr_of_reads' R hs (fun _ z => ns (List.mem_singleton.mp z).symm) hg (by omega) (fun _ _ z => z) (fun h' t tk k => ⟨.str d.shown, H, I.kept k, ⟨_, rfl⟩, q⟩) hz
end
end OGX
set_option Elab.async false
set_option linter.all false
set_option maxRecDepth 100000
set_option maxHeartbeats 4000000
namespace OG
open PySem PySem.Spec PyProof.Rows L2
/-- data that repr may be asked of -/
structure DOk (k c : Nat) (d : PyData) : Prop where
  sh : d.showable = true
  nd : d.hasDict = false
  dp : d.depth ≤ k
  ln : d.shown.length ≤ c
theorem DOk.mono {k c j e : Nat} {d : PyData} (h : DOk k c d) (h1 : k ≤ j) (h2 : c ≤ e) : DOk j e d := ⟨h.sh, h.nd, Nat.le_trans h.dp h1, Nat.le_trans h.ln h2⟩
theorem dok_int {i : Int} (h1 : -1000000000000 ≤ i) (h2 : i ≤ 1000000000000) : DOk 0 50 (.int i) := by
  refine ⟨?_, by simp only [PyData.hasDict], by simp only [PyData.depth]; exact Nat.le_refl _, ?_⟩
  · simp only [PyData.showable]
    exact decide_eq_true (small_log h1 h2)
  · rw [PyData.shown_int]
    exact Nat.le_trans (istr_len h1 h2) (by decide)
theorem dok_str {z : Str} (hz : IsNm z) : DOk 0 50 (.str z) := by
  refine ⟨by simp only [PyData.showable], by simp only [PyData.hasDict], by simp only [PyData.depth]; exact Nat.le_refl _, ?_⟩
  rw [PyData.shown_str]
  have h := StrLaws.reprText_len z fun c hc => by
    have h1 := hz.2.2 c hc
    have h2 : ∀ c ∈ abc, c < 16 ^ 8 := by decide +kernel
    exact h2 c h1
  have := hz.2.1
  omega
theorem dok_bool (b : Bool) : DOk 0 50 (.bool b) := by
  refine ⟨by simp only [PyData.showable], by simp only [PyData.hasDict], by simp only [PyData.depth]; exact Nat.le_refl _, ?_⟩
  rw [PyData.shown_bool]
  cases b <;> decide +kernel
theorem shownAll_map : ∀ ds : List PyData, PyData.shownAll ds = ds.map PyData.shown
  | [] => by rw [PyData.shownAll_nil]; rfl
  | d :: r => by rw [PyData.shownAll_cons, shownAll_map r]; rfl
theorem sum_le_mul {c : Nat} : ∀ {l : List Nat}, (∀ x ∈ l, x ≤ c) → l.sum ≤ c * l.length
  | [], _ => Nat.zero_le _
  | x :: r, h => by
    have h1 := h x List.mem_cons_self
    have h2 := sum_le_mul fun y hy => h y (List.mem_cons_of_mem _ hy)
    rw [List.sum_cons, List.length_cons, Nat.mul_succ]
    omega
theorem parts_ok {k c : Nat} : ∀ {ds : List PyData}, (∀ d ∈ ds, DOk k c d) → PyData.showableAll ds = true ∧ PyData.hasDictAll ds = false ∧ PyData.depthAll ds ≤ k
  | [], _ => by
    refine ⟨by simp only [PyData.showableAll], by simp only [PyData.hasDictAll], ?_⟩
    simp only [PyData.depthAll]
    exact Nat.zero_le _
  | d :: r, h => by
    have h1 := h d List.mem_cons_self
    obtain ⟨a, b, e⟩ := parts_ok fun y hy => h y (List.mem_cons_of_mem _ hy)
    refine ⟨by simp only [PyData.showableAll, h1.sh, a]; rfl, by simp only [PyData.hasDictAll, h1.nd, b]; rfl, ?_⟩
    simp only [PyData.depthAll]
    exact Nat.max_le.mpr ⟨h1.dp, e⟩
theorem parts_len {k c n : Nat} {ds : List PyData} (h : ∀ d ∈ ds, DOk k c d) (hn : ds.length ≤ n) : ((PyData.shownAll ds).map (·.length)).sum + 2 * (PyData.shownAll ds).length + 3 ≤ c * n + 2 * n + 3 := by
  rw [shownAll_map, List.length_map]
  have e := sum_le_mul (c := c) (l := (ds.map PyData.shown).map (·.length)) fun x hx => by
    obtain ⟨t, ht, rfl⟩ := List.mem_map.mp hx
    obtain ⟨d, hd, rfl⟩ := List.mem_map.mp ht
    exact (h d hd).ln
  rw [List.length_map, List.length_map] at e
  have := Nat.mul_le_mul_left c hn
  omega
theorem dok_list {k c n : Nat} {ds : List PyData} (h : ∀ d ∈ ds, DOk k c d) (hn : ds.length ≤ n) : DOk (k + 1) (c * n + 2 * n + 3) (.list ds) := by
  obtain ⟨a, b, e⟩ := parts_ok h
  refine ⟨by simp only [PyData.showable, a], by simp only [PyData.hasDict, b], by simp only [PyData.depth]; omega, ?_⟩
  simp only [PyData.shown]
  exact Nat.le_trans (listText_len_le _) (parts_len h hn)
theorem dok_tuple {k c n : Nat} {ds : List PyData} (h : ∀ d ∈ ds, DOk k c d) (hn : ds.length ≤ n) : DOk (k + 1) (c * n + 2 * n + 3) (.tuple ds) := by
  obtain ⟨a, b, e⟩ := parts_ok h
  refine ⟨by simp only [PyData.showable, a], by simp only [PyData.hasDict, b], by simp only [PyData.depth]; omega, ?_⟩
  simp only [PyData.shown]
  exact Nat.le_trans (tupleText_len_le _) (parts_len h hn)
theorem dok_strs {zs : List Str} (h : ∀ z ∈ zs, IsNm z) : ∀ d ∈ zs.map PyData.str, DOk 0 50 d := fun d hd => by
  obtain ⟨z, hz, rfl⟩ := List.mem_map.mp hd
  exact dok_str (h z hz)
theorem dok_ints {zs : List Int} (h : ∀ z ∈ zs, -1000000000000 ≤ z ∧ z ≤ 1000000000000) : ∀ d ∈ zs.map PyData.int, DOk 0 50 d := fun d hd => by
  obtain ⟨z, hz, rfl⟩ := List.mem_map.mp hd
  exact dok_int (h z hz).1 (h z hz).2
theorem dok_bools (zs : List Bool) : ∀ d ∈ zs.map PyData.bool, DOk 0 50 d := fun d hd => by
  obtain ⟨z, hz, rfl⟩ := List.mem_map.mp hd
  exact dok_bool z
/-- what stands in lists and tuples of leaves -/
theorem pr_strs {K : PySem.W.Frag} {H : Hp} (n : Nat) : ∀ zs : List Str, Paired (OGX.Rds K H n) (zs.map V.str) (zs.map PyData.str)
  | [] => .nil
  | z :: r => .cons (by cases n <;> first | exact rfl | exact .inl rfl) (pr_strs n r)
theorem pr_ints {K : PySem.W.Frag} {H : Hp} (n : Nat) : ∀ zs : List Int, Paired (OGX.Rds K H n) (zs.map V.int) (zs.map PyData.int)
  | [] => .nil
  | z :: r => .cons (by cases n <;> first | exact rfl | exact .inl rfl) (pr_ints n r)
theorem pr_bools {K : PySem.W.Frag} {H : Hp} (n : Nat) : ∀ zs : List Bool, Paired (OGX.Rds K H n) (zs.map V.bl) (zs.map PyData.bool)
  | [] => .nil
  | z :: r => .cons (by cases n <;> first | exact rfl | exact .inl rfl) (pr_bools n r)
theorem rds_list {K : PySem.W.Frag} {H : Hp} {n : Nat} {a : Addr} {xs : List V} {ds : List PyData} (h : H a = some (.lst xs)) (p : Paired (OGX.Rds K H n) xs ds) : OGX.Rds K H (n + 1) (.ref a) (.list ds) := .inr ⟨a, xs, ds, rfl, p, .inl ⟨h, rfl⟩⟩
theorem rds_tup {K : PySem.W.Frag} {H : Hp} {n : Nat} {a : Addr} {xs : List V} {ds : List PyData} (h : SqT K H a xs) (p : Paired (OGX.Rds K H n) xs ds) : OGX.Rds K H (n + 1) (.ref a) (.tuple ds) := .inr ⟨a, xs, ds, rfl, p, .inr ⟨h, rfl⟩⟩
end OG
set_option Elab.async false
set_option linter.all false
set_option maxRecDepth 100000
set_option maxHeartbeats 8000000
namespace OG
open PySem PySem.Spec PyProof.Rows L2
def Nears (H : Hp) (xs : List V) : Prop := ∀ x ∈ xs, NearV H x
theorem Nears.nil (H : Hp) : Nears H [] := fun _ h => by cases h
theorem Nears.cons {H : Hp} {x : V} {xs : List V} (h : NearV H x) (r : Nears H xs) : Nears H (x :: xs) := fun y hy => by
  rcases List.mem_cons.mp hy with e | e
  · rw [e]
    exact h
  · exact r y e
theorem Nears.app {H : Hp} {xs ys : List V} (a : Nears H xs) (b : Nears H ys) : Nears H (xs ++ ys) := fun x hx => (List.mem_append.mp hx).elim (a x) (b x)
theorem Nears.same {H H' : Hp} {xs : List V} (a : Nears H xs) (s : Same H H') : Nears H' xs := fun x hx => NearV.same s (a x hx)
def NearO (o : HO) : Prop := (∃ xs, o = .lst xs) ∨ (∃ xs, o = .tup xs) ∨ ∃ kvs, o = .dK kvs
theorem near_new {H : Hp} {a : Addr} {o : HO} {xs : List V} (n : H a = none) (N : Nears H xs) (ho : NearO o) : Nears (upd H a o) (.ref a :: xs) := by
  refine Nears.cons ?_ (N.same (same_new n))
  rcases ho with ⟨ys, rfl⟩ | ⟨ys, rfl⟩ | ⟨ys, rfl⟩
  · exact .inl ⟨ys, upd_same⟩
  · exact .inr (.inl ⟨ys, upd_same⟩)
  · exact .inr (.inr ⟨ys, upd_same⟩)
theorem NearV.dr {H H' : Hp} {p : Addr} {k : Nat} (d : Dr p k H H') : ∀ {v : V}, NearV H v → NearV H' v
  | .non, h => h
  | .bl _, h => h
  | .int _, h => h
  | .str _, h => h
  | .ref a, h => by
    by_cases e : a = p
    · rw [e]
      obtain ⟨x, y, c, h1, _⟩ := d.2
      exact .inl ⟨_, h1⟩
    · rcases h with ⟨xs, h⟩ | ⟨xs, h⟩ | ⟨xs, h⟩
      · exact .inl ⟨xs, d.1 _ _ e h⟩
      · exact .inr (.inl ⟨xs, d.1 _ _ e h⟩)
      · exact .inr (.inr ⟨xs, d.1 _ _ e h⟩)
theorem nsc {H : Hp} {z : Str} (h : z.length ≤ 900000) : NearV H (.str z) := h
theorem nnew {H : Hp} {a : Addr} {xs : List V} (o : HO) (ho : NearO o) (n : H a = none) (N : Nears H xs ∧ True) : Nears (upd H a o) (.ref a :: xs) ∧ Same H (upd H a o) := ⟨near_new n N.1 ho, same_new n⟩
theorem nearT (xs : List V) : NearO (.tup xs) := .inr (.inl ⟨xs, rfl⟩)
theorem nearL (xs : List V) : NearO (.lst xs) := .inl ⟨xs, rfl⟩
theorem nearD (xs : List (Key × V)) : NearO (.dK xs) := .inr (.inr ⟨xs, rfl⟩)
theorem near_put {H : Hp} {a : Addr} {xs : List V} {u o : HO} (n : H a = none) (N : Nears H xs) (ho : NearO o) : Nears (upd (upd H a u) a o) (.ref a :: xs) := by
  have e : upd (upd H a u) a o = upd H a o := by
    funext b
    by_cases hb : b = a
    · rw [hb, upd_same, upd_same]
    · rw [upd_ne hb, upd_ne hb, upd_ne hb]
  rw [e]
  exact near_new n N ho
theorem same_put {H : Hp} {a : Addr} {u o : HO} (n : H a = none) : Same H (upd (upd H a u) a o) := fun b x e => by
  rw [upd_ne (ne_of_none e n), upd_ne (ne_of_none e n)]
  exact e
end OG
set_option Elab.async false
set_option linter.all false
set_option maxRecDepth 100000
set_option maxHeartbeats 8000000
namespace OG
open PySem PySem.Spec PyProof.Rows L2
theorem dok_small {z : Str} (hl : z.length ≤ 19) (hc : ∀ c ∈ z.cps.toList, c < 16 ^ 8) : DOk 0 200 (.str z) := by
  refine ⟨by simp only [PyData.showable], by simp only [PyData.hasDict], by simp only [PyData.depth]; exact Nat.le_refl _, ?_⟩
  rw [PyData.shown_str]
  have h := StrLaws.reprText_len z hc
  omega
theorem dok_non : DOk 0 200 .none := by
  refine ⟨by simp only [PyData.showable], by simp only [PyData.hasDict], by simp only [PyData.depth]; exact Nat.le_refl _, ?_⟩
  rw [PyData.shown_none]
  decide +kernel
/-- H without p -/
def Hm (p : Addr) (H : Hp) : Hp := fun b => if b = p then none else H b
theorem Hm.ne {p b : Addr} {H : Hp} (n : b ≠ p) : Hm p H b = H b := if_neg n
theorem Hm.kp {p : Addr} {H H' : Hp} (k : Kp p H H') : Same (Hm p H) (Hm p H') := fun b o e => by
  by_cases n : b = p
  · rw [n] at e
    unfold Hm at e
    rw [if_pos rfl] at e
    cases e
  · rw [Hm.ne n] at e ⊢
    exact k b o n e
theorem Hm.same {p : Addr} {H : Hp} : Same (Hm p H) H := fun b o e => by
  by_cases n : b = p
  · rw [n] at e
    unfold Hm at e
    rw [if_pos rfl] at e
    cases e
  · rwa [Hm.ne n] at e
mutual
theorem Dp.sm {K : PySem.W.Frag} {H H' : Hp} (s : Same H H') : ∀ {v : V} {d : PyData}, Dp K H v d → Dp K H' v d
  | _, _, .non => .non
  | _, _, .bl b => .bl b
  | _, _, .int i => .int i
  | _, _, .str z => .str z
  | _, _, .lst h a => .lst (h.ext s) (DpAll.sm s a)
  | _, _, .tup h a => .tup (h.ext s) (DpAll.sm s a)
theorem DpAll.sm {K : PySem.W.Frag} {H H' : Hp} (s : Same H H') : ∀ {vs : List V} {ds : List PyData}, DpAll K H vs ds → DpAll K H' vs ds
  | _, _, .nil => .nil
  | _, _, .cons h a => .cons (Dp.sm s h) (DpAll.sm s a)
end
/-- an item of a value: None, a truth value, an int, a text, or a list or tuple of few of these -/
structure Itm (K : PySem.W.Frag) (p : Addr) (H : Hp) (v : V) : Prop where
  near : NearV H v
  dat : ∃ d, Dp K (Hm p H) v d ∧ DOk 2 7000 d
/-- a leaf -/
structure Lf (v : V) (d : PyData) : Prop where
  dp : ∀ {K : PySem.W.Frag} {H : Hp}, Dp K H v d
  ok : DOk 0 200 d
  nr : ∀ {H : Hp}, NearV H v
theorem lf_non : Lf .non .none := ⟨.non, dok_non, trivial⟩
theorem lf_bl (b : Bool) : Lf (.bl b) (.bool b) := ⟨.bl b, (dok_bool b).mono (Nat.le_refl _) (by decide), trivial⟩
theorem lf_int {i : Int} (h1 : -1000000000000 ≤ i) (h2 : i ≤ 1000000000000) : Lf (.int i) (.int i) := ⟨.int i, (dok_int h1 h2).mono (Nat.le_refl _) (by decide), trivial⟩
theorem lf_str {z : Str} (hl : z.length ≤ 19) (hc : ∀ c ∈ z.cps.toList, c < 16 ^ 8) : Lf (.str z) (.str z) := ⟨.str z, dok_small hl hc, fun {H} => Nat.le_trans hl (by decide)⟩
theorem lf_nm {z : Str} (h : IsNm z) : Lf (.str z) (.str z) := lf_str (Nat.le_trans h.2.1 (by decide)) fun c hc => by
  have h1 := h.2.2 c hc
  have h2 : ∀ c ∈ abc, c < 16 ^ 8 := by decide +kernel
  exact h2 c h1
theorem Lf.itm {K : PySem.W.Frag} {p : Addr} {H : Hp} {v : V} {d : PyData} (h : Lf v d) : Itm K p H v := ⟨h.nr, d, h.dp, h.ok.mono (by decide) (by decide)⟩
theorem lf_all {K : PySem.W.Frag} {H : Hp} : ∀ {vs : List V} {ds : List PyData}, Paired Lf vs ds → DpAll K H vs ds
  | _, _, .nil => .nil
  | _, _, .cons h t => .cons h.dp (lf_all t)
theorem lf_dok : ∀ {vs : List V} {ds : List PyData}, Paired Lf vs ds → ∀ d ∈ ds, DOk 0 200 d
  | _, _, .nil, d, h => by cases h
  | _, _, .cons h t, d, hd => by
    rcases List.mem_cons.mp hd with rfl | hd
    · exact h.ok
    · exact lf_dok t d hd
theorem pl {α β : Type} {R : α → β → Prop} : ∀ {xs : List α} {ys : List β}, Paired R xs ys → xs.length = ys.length
  | _, _, .nil => rfl
  | _, _, .cons _ t => congrArg (· + 1) (pl t)
/-- a tuple or list of leaves is an item -/
theorem itm_tup {K : PySem.W.Frag} {p a : Addr} {H : Hp} {vs : List V} {ds : List PyData} (ha : H a = some (.tup vs)) (n : a ≠ p) (h : Paired Lf vs ds) (hl : vs.length ≤ 20) : Itm K p H (.ref a) :=
  ⟨.inr (.inl ⟨_, ha⟩), _, .tup (SqT.of (by rw [Hm.ne n]; exact ha)) (lf_all h), (dok_tuple (n := 20) (lf_dok h) (by rw [← pl h]; exact hl)).mono (by decide) (by decide)⟩
theorem itm_lst {K : PySem.W.Frag} {p a : Addr} {H : Hp} {vs : List V} {ds : List PyData} (ha : H a = some (.lst vs)) (n : a ≠ p) (h : Paired Lf vs ds) (hl : vs.length ≤ 20) : Itm K p H (.ref a) :=
  ⟨.inl ⟨_, ha⟩, _, .lst (SqL.of (by rw [Hm.ne n]; exact ha)) (lf_all h), (dok_list (n := 20) (lf_dok h) (by rw [← pl h]; exact hl)).mono (by decide) (by decide)⟩
theorem Itm.dr {K : PySem.W.Frag} {p : Addr} {k : Nat} {H H' : Hp} {v : V} (h : Itm K p H v) (d : Dr p k H H') : Itm K p H' v := by
  obtain ⟨e, h1, h2⟩ := h.dat
  exact ⟨NearV.dr d h.near, e, Dp.sm (Hm.kp d.1) h1, h2⟩
theorem Itm.same {K : PySem.W.Frag} {p : Addr} {H H' : Hp} {v : V} (h : Itm K p H v) (s : Same H H') : Itm K p H' v := by
  obtain ⟨e, h1, h2⟩ := h.dat
  exact ⟨NearV.same s h.near, e, Dp.sm (Hm.kp (Same.kp s)) h1, h2⟩
/-- a value -/
structure Val (K : PySem.W.Frag) (p : Addr) (H : Hp) (v : V) : Prop where
  near : NearV H v
  dat : ∃ d, OGX.ShD K (Hm p H) v d ∧ d.showable = true ∧ d.depth ≤ 60 ∧ d.shown.length ≤ sizeLine
  its : ∀ a xs, v = .ref a → H a = some (.tup xs) → (∀ x ∈ xs, NearV H x) ∧ xs.length ≤ 20
theorem ShD.sm {K : PySem.W.Frag} {H H' : Hp} {v : V} {d : PyData} (s : Same H H') (h : OGX.ShD K H v d) : OGX.ShD K H' v d := by
  rcases h with ⟨h, e⟩ | ⟨a, rfl, ⟨h, e⟩ | ⟨k, i, h, e⟩⟩
  · exact .inl ⟨Dp.sm s h, e⟩
  · exact .inr ⟨a, rfl, .inl ⟨s _ _ h, e⟩⟩
  · exact .inr ⟨a, rfl, .inr ⟨k, i, s _ _ h, e⟩⟩
theorem Val.dr {K : PySem.W.Frag} {p : Addr} {k : Nat} {H H' : Hp} {v : V} (h : Val K p H v) (hp : ∃ xs, H p = some (.lst xs)) (d : Dr p k H H') : Val K p H' v := by
  obtain ⟨e, h1, h2⟩ := h.dat
  refine ⟨NearV.dr d h.near, ⟨e, ShD.sm (Hm.kp d.1) h1, h2⟩, fun a xs ev ha => ?_⟩
  subst ev
  have nap : a ≠ p := fun z => by
    obtain ⟨x, y, c, h1, _⟩ := d.2
    rw [z, h1] at ha
    cases ha
  have old : H a = some (.tup xs) := by
    rcases h.near with ⟨ys, e⟩ | ⟨ys, e⟩ | ⟨ys, e⟩
    · rw [d.1 _ _ nap e] at ha
      cases ha
    · rw [d.1 _ _ nap e] at ha
      cases ha
      exact e
    · rw [d.1 _ _ nap e] at ha
      cases ha
  obtain ⟨i1, i2⟩ := h.its a xs rfl old
  exact ⟨fun x hx => NearV.dr d (i1 x hx), i2⟩
theorem Val.same {K : PySem.W.Frag} {p : Addr} {H H' : Hp} {v : V} (h : Val K p H v) (s : Same H H') : Val K p H' v := by
  obtain ⟨e, h1, h2⟩ := h.dat
  refine ⟨NearV.same s h.near, ⟨e, ShD.sm (Hm.kp (Same.kp s)) h1, h2⟩, fun a xs ev ha => ?_⟩
  subst ev
  have old : H a = some (.tup xs) := by
    rcases h.near with ⟨ys, e⟩ | ⟨ys, e⟩ | ⟨ys, e⟩
    · rw [s _ _ e] at ha
      cases ha
    · rw [s _ _ e] at ha
      cases ha
      exact e
    · rw [s _ _ e] at ha
      cases ha
  obtain ⟨i1, i2⟩ := h.its a xs rfl old
  exact ⟨fun x hx => NearV.same s (i1 x hx), i2⟩
/-- items as data -/
theorem its_all {K : PySem.W.Frag} {p : Addr} {H : Hp} : ∀ {xs : List V}, (∀ x ∈ xs, Itm K p H x) → ∃ ds, DpAll K (Hm p H) xs ds ∧ (∀ d ∈ ds, DOk 2 7000 d) ∧ ds.length = xs.length
  | [], _ => ⟨[], .nil, (fun d h => by cases h), rfl⟩
  | x :: xs, h => by
    obtain ⟨d, h1, h2⟩ := (h x List.mem_cons_self).dat
    obtain ⟨ds, h3, h4, h5⟩ := its_all fun y hy => h y (List.mem_cons_of_mem _ hy)
    refine ⟨d :: ds, .cons h1 h3, fun e he => ?_, congrArg (· + 1) h5⟩
    rcases List.mem_cons.mp he with rfl | he
    · exact h2
    · exact h4 e he
theorem val_tup {K : PySem.W.Frag} {p a : Addr} {H : Hp} {xs : List V} (ha : H a = some (.tup xs)) (n : a ≠ p) (h : ∀ x ∈ xs, Itm K p H x) (hl : xs.length ≤ 20) : Val K p H (.ref a) := by
  obtain ⟨ds, h1, h2, h3⟩ := its_all h
  have dk := dok_tuple (n := 20) h2 (by omega)
  refine ⟨.inr (.inl ⟨_, ha⟩), ⟨_, .inl ⟨.tup (SqT.of (by rw [Hm.ne n]; exact ha)) h1, dk.nd⟩, dk.sh, Nat.le_trans dk.dp (by decide), Nat.le_trans dk.ln (by decide)⟩, fun b ys e hb => ?_⟩
  cases e
  rw [ha] at hb
  cases hb
  exact ⟨fun x hx => (h x hx).near, hl⟩
theorem val_lst {K : PySem.W.Frag} {p a : Addr} {H : Hp} {xs : List V} (ha : H a = some (.lst xs)) (n : a ≠ p) (h : ∀ x ∈ xs, Itm K p H x) (hl : xs.length ≤ 20) : Val K p H (.ref a) := by
  obtain ⟨ds, h1, h2, h3⟩ := its_all h
  have dk := dok_list (n := 20) h2 (by omega)
  refine ⟨.inl ⟨_, ha⟩, ⟨_, .inl ⟨.lst (SqL.of (by rw [Hm.ne n]; exact ha)) h1, dk.nd⟩, dk.sh, Nat.le_trans dk.dp (by decide), Nat.le_trans dk.ln (by decide)⟩, fun b ys e hb => ?_⟩
  cases e
  rw [ha] at hb
  cases hb
theorem Lf.val {K : PySem.W.Frag} {p : Addr} {H : Hp} {v : V} {d : PyData} (h : Lf v d) (hn : ∀ a, v ≠ .ref a) : Val K p H v := ⟨h.nr, ⟨d, .inl ⟨h.dp, h.ok.nd⟩, h.ok.sh, Nat.le_trans h.ok.dp (by decide), Nat.le_trans h.ok.ln (by decide)⟩, fun a _ e => absurd e (hn a)⟩
theorem val_dic {K : PySem.W.Frag} {p a : Addr} {H : Hp} {kvs : List (Key × V)} (ha : H a = some (.dK kvs)) (n : a ≠ p) (h : kvs = [] ∨ kvs = [(.inr "a", .int 1)]) : Val K p H (.ref a) := by
  have no : ∀ b xs, V.ref a = .ref b → H b = some (.tup xs) → (∀ x ∈ xs, NearV H x) ∧ xs.length ≤ 20 := fun b xs e hb => by
    cases e
    rw [ha] at hb
    cases hb
  have hm : Hm p H a = some (.dK kvs) := by rw [Hm.ne n]; exact ha
  rcases h with rfl | rfl
  · refine ⟨.inr (.inr ⟨_, ha⟩), ⟨.dict [], .inr ⟨a, rfl, .inl ⟨hm, rfl⟩⟩, ?_, ?_, ?_⟩, no⟩
    · simp [PyData.showable, PyData.showableKv]
    · decide +kernel
    · exact Nat.le_trans (show (PyData.dict []).shown.length ≤ 1000 by decide +kernel) (by decide)
  · refine ⟨.inr (.inr ⟨_, ha⟩), ⟨.dict [(.str "a", .int 1)], .inr ⟨a, rfl, .inr ⟨"a", 1, hm, rfl⟩⟩, ?_, ?_, ?_⟩, no⟩
    · decide +kernel
    · decide +kernel
    · exact Nat.le_trans (show (PyData.dict [(.str "a", .int 1)]).shown.length ≤ 1000 by decide +kernel) (by decide)
end OG
set_option Elab.async false
set_option linter.all false
set_option maxRecDepth 100000
set_option maxHeartbeats 8000000
namespace OG
open PySem PySem.Spec PyProof.Rows L2
/-- values, beside the pot -/
def Vls (K : PySem.W.Frag) (p : Addr) (H : Hp) (xs : List V) : Prop := (∃ o, H p = some o) ∧ ∀ x ∈ xs, Val K p H x
theorem Vls.nil {K : PySem.W.Frag} {p : Addr} {H : Hp} (h : ∃ o, H p = some o) : Vls K p H [] := ⟨h, fun _ h => by cases h⟩
theorem Vls.cons {K : PySem.W.Frag} {p : Addr} {H : Hp} {x : V} {xs : List V} (h : Val K p H x) (r : Vls K p H xs) : Vls K p H (x :: xs) := ⟨r.1, fun y hy => by
  rcases List.mem_cons.mp hy with rfl | e
  · exact h
  · exact r.2 y e⟩
theorem Vls.app {K : PySem.W.Frag} {p : Addr} {H : Hp} {xs ys : List V} (a : Vls K p H xs) (b : Vls K p H ys) : Vls K p H (xs ++ ys) := ⟨a.1, fun x hx => (List.mem_append.mp hx).elim (a.2 x) (b.2 x)⟩
theorem Vls.same {K : PySem.W.Frag} {p : Addr} {H H' : Hp} {xs : List V} (a : Vls K p H xs) (s : Same H H') : Vls K p H' xs := ⟨a.1.imp fun o h => s _ _ h, fun x hx => (a.2 x hx).same s⟩
theorem itm_lf {K : PySem.W.Frag} {p : Addr} {H : Hp} : ∀ {vs : List V} {ds : List PyData}, Paired Lf vs ds → ∀ x ∈ vs, Itm K p H x
  | _, _, .nil, x, h => by cases h
  | _, _, .cons h t, x, hx => by
    rcases List.mem_cons.mp hx with rfl | hx
    · exact h.itm
    · exact itm_lf t x hx
theorem Vls.fresh {K : PySem.W.Frag} {p a : Addr} {H : Hp} {xs : List V} (N : Vls K p H xs) (n : H a = none) : a ≠ p := fun z => by
  obtain ⟨o, h⟩ := N.1
  rw [z, h] at n
  cases n
theorem vnT {K : PySem.W.Frag} {p a : Addr} {H : Hp} {xs vs : List V} {ds : List PyData} (n : H a = none) (N : Vls K p H xs) (h : Paired Lf vs ds) (hl : vs.length ≤ 20) : Vls K p (upd H a (.tup vs)) (.ref a :: xs) := .cons (val_tup upd_same (N.fresh n) (itm_lf h) hl) (N.same (same_new n))
theorem vnL {K : PySem.W.Frag} {p a : Addr} {H : Hp} {xs vs : List V} {ds : List PyData} (n : H a = none) (N : Vls K p H xs) (h : Paired Lf vs ds) (hl : vs.length ≤ 20) : Vls K p (upd H a (.lst vs)) (.ref a :: xs) := .cons (val_lst upd_same (N.fresh n) (itm_lf h) hl) (N.same (same_new n))
theorem vnD {K : PySem.W.Frag} {p a : Addr} {H : Hp} {xs : List V} {kvs : List (Key × V)} (n : H a = none) (N : Vls K p H xs) (h : kvs = [] ∨ kvs = [(.inr "a", .int 1)]) : Vls K p (upd H a (.dK kvs)) (.ref a :: xs) := .cons (val_dic upd_same (N.fresh n) h) (N.same (same_new n))
theorem lfi (i : Int) (h : (decide (-1000000000000 ≤ i) && decide (i ≤ 1000000000000)) = true) : Lf (.int i) (.int i) := by
  rw [Bool.and_eq_true, decide_eq_true_eq, decide_eq_true_eq] at h
  exact lf_int h.1 h.2
theorem lfs (z : Str) (h : (decide (z.length ≤ 19) && z.cps.toList.all fun c => decide (c < 16 ^ 8)) = true) : Lf (.str z) (.str z) := by
  rw [Bool.and_eq_true, decide_eq_true_eq, List.all_eq_true] at h
  exact lf_str h.1 fun c hc => of_decide_eq_true (h.2 c hc)
theorem nref {i : Int} : ∀ a, V.int i ≠ .ref a := fun a h => by cases h
theorem nrefs {z : Str} : ∀ a, V.str z ≠ .ref a := fun a h => by cases h
theorem Lf.vi {K : PySem.W.Frag} {p : Addr} {H : Hp} {i : Int} {d : PyData} (h : Lf (.int i) d) : Val K p H (.int i) := h.val nref
theorem Lf.vs {K : PySem.W.Frag} {p : Addr} {H : Hp} {z : Str} {d : PyData} (h : Lf (.str z) d) : Val K p H (.str z) := h.val nrefs
theorem Pot.lst {k : Nat} {H : Hp} {p : Addr} (h : Pot k H p) : ∃ xs, H p = some (.lst xs) := by
  obtain ⟨a, b, c, h1, _⟩ := h
  exact ⟨_, h1⟩
section
variable {P : Program} {w : World} {K : PySem.W.Frag} {mg : Str → Option Value} {base : Heap}
def spOddV (K : PySem.W.Frag) : Sp := fun vs H Q _ => ∃ (p : Addr) (k : Nat), vs = [.ref p] ∧ Pot (k + 1) H p ∧ ∀ (v : V) (H' : Hp), Dr p k H H' → Val K p H' v → Q v H'
theorem ok_l_odd (T : Txt K mg) : FnOk P w K mg base CX0 3 T.f_l_odd T.fd_l_odd ["pot"] (spOddV K) := by
  refine T.F_l_odd.ok sc_l_odd (fun vs H Q E h => ?_) (fun cdv A outer s H vs Q E hr h => ?_)
  · obtain ⟨p, k, rfl, _⟩ := h
    rfl
  · obtain ⟨p, k, rfl, hP, q⟩ := h
    refine ⟨_, (pss_cons (ps_set (i := 1) sc_l_odd.nd rfl (Or.inl rfl) (pe_lst (pa_cons pe_non (pa_cons pe_bl (pa_cons pe_bl (pa_cons pe_int (pa_cons pe_int (pa_cons (pe_un un_neg pe_int) (pa_cons pe_int (pa_cons (pe_op op_powW pe_int pe_int) (pa_cons pe_str (pa_cons pe_str (pa_cons pe_str (pa_cons pe_str (pa_cons pe_str (pa_cons pe_str (pa_cons (pe_tup pa_nil) (pa_cons (pe_lst pa_nil) (pa_cons pe_dnewK (pa_cons (pe_tup (pa_cons pe_int pa_nil)) pa_nil))))))))))))))))))))
  (pss_cons (ps_set (i := 1) sc_l_odd.nd rfl (Or.inl rfl) (pe_op op_cat (pv 1) (pe_lst (pa_cons (pe_tup (pa_cons pe_int (pa_cons pe_int pa_nil))) (pa_cons (pe_tup (pa_cons pe_int (pa_cons pe_int pa_nil))) (pa_cons (pe_tup (pa_cons pe_int (pa_cons pe_int pa_nil))) (pa_cons (pe_tup (pa_cons (pe_tup pa_nil) pa_nil)) (pa_cons (pe_lst (pa_cons pe_int pa_nil)) (pa_cons (pe_tup (pa_cons pe_non pa_nil)) (pa_cons (pe_disp (pps_cons pe_str pe_int pps_nil) (by rfl) (by rfl) (fun z => by cases z) (by decide)) (pa_cons (pe_tup (pa_cons pe_bl pa_nil)) (pa_cons (pe_tup (pa_cons pe_str pa_nil)) (pa_cons (pe_tup (pa_cons pe_str (pa_cons pe_str pa_nil))) (pa_cons pe_str (pa_cons pe_str pa_nil)))))))))))))))
  (pss_one (ps_ret (pe_call (ok_l_of T) (hr.mono (by decide)) (by rfl) T.g_l_of T.F_l_of.kp T.b_l_of .nil pass0 (pa_cons (pv 0) (pa_cons (pv 1) pa_nil))))))), ?_⟩
    refine ⟨_, rfl, _, _, rfl, rfl, pow_c (by decide), ?_⟩
    refine ⟨Nat.zero_le _, fun a1 n1 => ⟨Nat.zero_le _, fun a2 n2 => fun a3 n3 => ⟨Nat.le_trans (show 1 ≤ 1000 by decide) (by decide), fun a4 n4 => ⟨Nat.le_trans (show 18 ≤ 1000 by decide) (by decide), fun l1 hl1 => ?_⟩⟩⟩⟩
    have N1 := vnT (K := K) (p := p) n1 (Vls.nil ⟨_, hP.lst.choose_spec⟩) .nil (by decide)
    have N2 := vnL n2 N1 .nil (by decide)
    have N3 := vnD n3 N2 (.inl rfl)
    have N4 := vnT n4 N3 (.cons (lfi 0 (by decide +kernel)) .nil) (by decide)
    have s4 := (same_new (o := .tup []) n1).trans ((same_new (o := .lst []) n2).trans ((same_new (o := .dK []) n3).trans (same_new (o := .tup [.int 0]) n4)))
    obtain ⟨xs1, hxs1⟩ : ∃ xs : List V, xs = [.non, .bl true, .bl false, .int 0, .int 1, .int (-1), .int 7, .int (10 ^ (8 : Int).toNat), .str "", .str "a", .str "x", .str "script", .str "script\nx = one", .str "same", .ref a1, .ref a2, .ref a3, .ref a4] := ⟨_, rfl⟩
    have h1 : (upd (upd (upd (upd (upd H a1 (.tup [])) a2 (.lst [])) a3 (.dK [])) a4 (.tup [.int 0])) l1 (.lst xs1)) l1 = some (.lst xs1) := upd_same
    rw [← hxs1]
    have r4 : ∀ {x}, x ∈ [V.ref a4, .ref a3, .ref a2, .ref a1] → Val K p _ x := fun {x} hx => N4.2 x hx
    have A1 : Vls K p (upd (upd (upd (upd H a1 (.tup [])) a2 (.lst [])) a3 (.dK [])) a4 (.tup [.int 0])) xs1 := by
      rw [hxs1]
      refine .cons (lf_non.val fun a h => by cases h) (.cons ((lf_bl true).val fun a h => by cases h) (.cons ((lf_bl false).val fun a h => by cases h) (.cons (lfi _ (by decide +kernel)).vi (.cons (lfi _ (by decide +kernel)).vi (.cons (lfi _ (by decide +kernel)).vi (.cons (lfi _ (by decide +kernel)).vi (.cons (lfi _ (by decide +kernel)).vi (.cons (lfs _ (by decide +kernel)).vs (.cons (lfs _ (by decide +kernel)).vs (.cons (lfs _ (by decide +kernel)).vs (.cons (lfs _ (by decide +kernel)).vs (.cons (lfs _ (by decide +kernel)).vs (.cons (lfs _ (by decide +kernel)).vs ?_)))))))))))))
      exact .cons (r4 (by simp)) (.cons (r4 (by simp)) (.cons (r4 (by simp)) (.cons (r4 (by simp)) (.nil N4.1))))
    have lx1 : xs1.length = 18 := by
      rw [hxs1]
      rfl
    have s5 := same_new (o := .lst xs1) hl1
    have A1 := A1.same s5
    have sA := s4.trans s5
    generalize upd (upd (upd (upd (upd H a1 (.tup [])) a2 (.lst [])) a3 (.dK [])) a4 (.tup [.int 0])) l1 (.lst xs1) = H1 at *
    refine ⟨.ref l1, rfl, ⟨Nat.le_trans (show 2 ≤ 1000 by decide) (by decide), fun b1 m1 => ⟨Nat.le_trans (show 2 ≤ 1000 by decide) (by decide), fun b2 m2 => ⟨Nat.le_trans (show 2 ≤ 1000 by decide) (by decide), fun b3 m3 => ⟨Nat.zero_le _, fun b4 m4 => ⟨Nat.le_trans (show 1 ≤ 1000 by decide) (by decide), fun b5 m5 => ⟨Nat.le_trans (show 1 ≤ 1000 by decide) (by decide), fun b6 m6 => ⟨Nat.le_trans (show 1 ≤ 1000 by decide) (by decide), fun b7 m7 => ?_⟩⟩⟩⟩⟩⟩⟩⟩
    have M1 := vnT (K := K) (p := p) m1 (Vls.nil A1.1) (.cons (lfi 0 (by decide +kernel)) (.cons (lfi 1 (by decide +kernel)) .nil)) (by decide)
    have M2 := vnT m2 M1 (.cons (lfi 1 (by decide +kernel)) (.cons (lfi 0 (by decide +kernel)) .nil)) (by decide)
    have M3 := vnT m3 M2 (.cons (lfi 1 (by decide +kernel)) (.cons (lfi 1 (by decide +kernel)) .nil)) (by decide)
    have M4 := vnT m4 M3 .nil (by decide)
    have M5 := Vls.cons (K := K) (p := p) (x := .ref b5) (H := upd (upd (upd (upd (upd H1 b1 (.tup [.int 0, .int 1])) b2 (.tup [.int 1, .int 0])) b3 (.tup [.int 1, .int 1])) b4 (.tup [])) b5 (.tup [.ref b4])) (val_tup upd_same (M4.fresh m5) (fun x hx => by rw [List.mem_singleton.mp hx]; exact itm_tup (same_new m5 _ _ upd_same) (M3.fresh m4) .nil (by decide)) (by show 1 ≤ 20; decide)) (M4.same (same_new m5))
    have M6 := vnL m6 M5 (.cons (lfi 0 (by decide +kernel)) .nil) (by decide)
    have M7 := vnT m7 M6 (.cons lf_non .nil) (by decide)
    have t7 := (same_new (o := .tup [.int 0, .int 1]) m1).trans ((same_new (o := .tup [.int 1, .int 0]) m2).trans ((same_new (o := .tup [.int 1, .int 1]) m3).trans ((same_new (o := .tup []) m4).trans ((same_new (o := .tup [.ref b4]) m5).trans ((same_new (o := .lst [.int 0]) m6).trans (same_new (o := .tup [.non]) m7))))))
    refine fun b8 m8 => ⟨upd_same, [(.inr "a", .int 1)], rfl, by decide, ?_⟩
    have M8 : Vls K p _ _ := Vls.cons (K := K) (p := p) (x := .ref b8) (val_dic (kvs := mergeK [] [(.inr "a", .int 1)]) upd_same (M7.fresh m8) (.inr rfl)) (M7.same (same_put (u := .dK []) (o := .dK (mergeK [] [(.inr "a", .int 1)])) m8))
    have t8 := t7.trans (same_put (u := .dK []) (o := .dK (mergeK [] [(.inr "a", .int 1)])) m8)
    refine ⟨Nat.le_trans (show 1 ≤ 1000 by decide) (by decide), fun b9 m9 => ⟨Nat.le_trans (show 1 ≤ 1000 by decide) (by decide), fun b10 m10 => ⟨Nat.le_trans (show 2 ≤ 1000 by decide) (by decide), fun b11 m11 => ⟨Nat.le_trans (show 12 ≤ 1000 by decide) (by decide), fun l2 hl2 => ?_⟩⟩⟩⟩
    have M9 := vnT m9 M8 (.cons (lf_bl true) .nil) (by decide)
    have M10 := vnT m10 M9 (.cons (lfs "a" (by decide +kernel)) .nil) (by decide)
    have M11 := vnT m11 M10 (.cons (lfs "a" (by decide +kernel)) (.cons (lfs "b" (by decide +kernel)) .nil)) (by decide)
    have t11 := t8.trans ((same_new (o := .tup [.bl true]) m9).trans ((same_new (o := .tup [.str "a"]) m10).trans (same_new (o := .tup [.str "a", .str "b"]) m11)))
    obtain ⟨xs2, hxs2⟩ : ∃ xs : List V, xs = [.ref b1, .ref b2, .ref b3, .ref b5, .ref b6, .ref b7, .ref b8, .ref b9, .ref b10, .ref b11, .str "parts", .str "rows"] := ⟨_, rfl⟩
    rw [← hxs2]
    have A2' := Vls.cons (M11.2 (.ref b1) (by simp)) (Vls.cons (M11.2 (.ref b2) (by simp)) (Vls.cons (M11.2 (.ref b3) (by simp)) (Vls.cons (M11.2 (.ref b5) (by simp)) (Vls.cons (M11.2 (.ref b6) (by simp)) (Vls.cons (M11.2 (.ref b7) (by simp)) (Vls.cons (M11.2 (.ref b8) (by simp)) (Vls.cons (M11.2 (.ref b9) (by simp)) (Vls.cons (M11.2 (.ref b10) (by simp)) (Vls.cons (M11.2 (.ref b11) (by simp)) (Vls.cons (lfs "parts" (by decide +kernel)).vs (Vls.cons (lfs "rows" (by decide +kernel)).vs (Vls.nil M11.1))))))))))))
    rw [← hxs2] at A2'
    have lx2 : xs2.length = 12 := by
      rw [hxs2]
      rfl
    have s12 := same_new (o := .lst xs2) hl2
    refine ⟨l1, l2, xs1, xs2, rfl, rfl, s12 _ _ (t11 _ _ h1), upd_same, by rw [lx1, lx2]; exact Nat.le_trans (show 30 ≤ 1000 by decide) (by decide), fun l3 hl3 => ?_⟩
    have s13 := same_new (o := .lst (xs1 ++ xs2)) hl3
    have sF := ((sA.trans t11).trans s12).trans s13
    have B := (((A1.same t11).app A2').same s12).same s13
    refine ⟨.ref p, rfl, .ref l3, rfl, p, l3, xs1 ++ xs2, k, rfl, hP.same sF, SqL.of upd_same, (hP.same ((sA.trans t11).trans s12)).ne hl3, by rw [List.length_append, lx1, lx2]; decide, by rw [List.length_append, lx1, lx2]; decide, fun i x H' hx d => ?_⟩
    exact q x H' ⟨(Same.kp sF).trans d.1, d.2⟩ ((B.2 x (List.mem_of_getElem? hx)).dr (hP.same sF).lst d)
end
end OG
set_option Elab.async false
set_option linter.all false
set_option maxRecDepth 100000
set_option maxHeartbeats 4000000
namespace OG
open PySem PySem.Spec PyProof.Rows L2
section
variable {X : Cx} (K : PySem.W.Frag)
theorem pe_fldK {e : Expr} {f : Str} {pos : Pos} {ta : TE} (he : PE X e ta) (hb : attributeBase e f X.env (eval e X.env) = eval e X.env) (hK : X.K = K := by rfl) : PE X (.Attribute e f pos) (tFld K ta f) := hK ▸ pe_fld he hb
theorem pa_starK {e : Expr} {es : List Expr} {te : TE} {t : TA} {p : Pos} (he : PE X e te) (hr : PA X es t) (hK : X.K = K := by rfl) (hs : starEach (.Starred e p :: es) X.env = (true, eval e X.env) :: starEach es X.env := by rfl) : PA X (.Starred e p :: es) (StX.tStar K te t) := hK ▸ StX.pa_star he hr hs
theorem op_catAK (hK : X.K = K := by rfl) : OpR X (binaryOp .Add) (rCatA K) := hK ▸ op_catA
end
end OG
set_option Elab.async false
set_option linter.all false
set_option maxRecDepth 100000
set_option maxHeartbeats 4000000
namespace OG
open PySem PySem.Spec PyProof.Rows L2
/-! what is not reached -/
theorem pe_dead {X : Cx} {e : Expr} : PE X e (fun _ _ _ => False) := ⟨fun _ _ _ _ _ _ h => h.elim⟩
theorem pt_dead {X : Cx} {e : Expr} : PT X e (fun _ _ _ => False) := ⟨fun _ _ _ _ _ _ h => h.elim⟩
theorem pw_dead {X : Cx} {e : Expr} : PW X e (fun _ _ _ => False) := ⟨fun _ _ _ _ _ _ _ h => h.elim⟩
theorem pss_dead {X : Cx} {b : List Stmt} : PSs X b (fun _ _ _ => False) := ⟨fun _ _ _ _ _ _ h => h.elim⟩
theorem ps_dead {X : Cx} {b : Stmt} : PS X b (fun _ _ _ => False) := ⟨fun _ _ _ _ _ _ h => h.elim⟩
end OG
set_option Elab.async false
set_option linter.all false
set_option maxRecDepth 100000
set_option maxHeartbeats 8000000
namespace OG
open PySem PySem.Spec PyProof.Rows L2
/-- a short text -/
def Sm (n : Nat) (z : Str) : Prop := z.length ≤ n ∧ ∀ c ∈ z.cps.toList, c < 16 ^ 8
theorem Sm.lf {n : Nat} {z : Str} (h : Sm n z) (hn : n ≤ 19) : Lf (.str z) (.str z) := lf_str (Nat.le_trans h.1 hn) h.2
theorem len_tl (z : Str) : z.length = z.cps.toList.length := (Array.length_toList).symm
theorem sm_of {n : Nat} {z : Str} {l : List Nat} (e : z.cps.toList = l) (h1 : l.length ≤ n) (h2 : ∀ c ∈ l, c < 16 ^ 8) : Sm n z := by
  refine ⟨?_, ?_⟩
  · rw [len_tl, e]
    exact h1
  · rw [e]
    exact h2
theorem sm_app {n m : Nat} {y z : Str} (h : Sm n y) (k : Sm m z) : Sm (n + m) (y ++ z) := by
  have e : (y ++ z).cps.toList = y.cps.toList ++ z.cps.toList := Array.toList_append
  refine sm_of e ?_ fun c hc => (List.mem_append.mp hc).elim (h.2 c) (k.2 c)
  rw [List.length_append, ← len_tl, ← len_tl]
  exact Nat.add_le_add h.1 k.1
theorem sm_cut {n : Nat} {z : Str} (h : Sm n z) (lo hi : Option Int) : Sm n (cutS z lo hi) := by
  refine sm_of (l := ((z.cps.toList.drop _).take _)) rfl ?_ fun c hc => h.2 c (List.mem_of_mem_drop (List.mem_of_mem_take hc))
  rw [List.length_take, List.length_drop, ← len_tl]
  have := h.1
  omega
theorem sm_nm {z : Str} (h : IsNm z) : Sm 4 z := ⟨h.2.1, fun c hc => by
  have h1 := h.2.2 c hc
  have h2 : ∀ c ∈ abc, c < 16 ^ 8 := by decide +kernel
  exact h2 c h1⟩
theorem sm_upper {z : Str} (h : IsNm z) : Sm 12 (Txt.upper z) := by
  have key : ∀ c ∈ abc, (Unicode.upperOf c).length ≤ 3 ∧ ∀ d ∈ Unicode.upperOf c, d < 16 ^ 8 := by decide +kernel
  have e : (Txt.upper z).cps.toList = z.cps.toList.flatMap Unicode.upperOf := by
    show (placed z fun _ c => Unicode.upperOf c).toList = _
    unfold placed
    have mi : ∀ l : List Nat, List.mapIdx (fun _ c => (Unicode.upperOf c).toArray) l = l.map fun c => (Unicode.upperOf c).toArray := fun l => List.ext_getElem (by simp) (by simp)
    simp [Array.toList_flatten, List.flatMap, mi, Function.comp_def]
  refine sm_of e ?_ fun c hc => ?_
  · have hl : z.cps.toList.length ≤ 4 := by
      rw [← len_tl]
      exact h.2.1
    have hm := h.2.2
    generalize z.cps.toList = l at hl hm
    have : ∀ l : List Nat, (∀ c ∈ l, c ∈ abc) → (l.flatMap Unicode.upperOf).length ≤ 3 * l.length := by
      intro l hl
      induction l with
      | nil => exact Nat.le_refl _
      | cons c l ih =>
        rw [List.flatMap_cons, List.length_append, List.length_cons, Nat.mul_succ]
        have := (key c (hl c List.mem_cons_self)).1
        have := ih fun d hd => hl d (List.mem_cons_of_mem _ hd)
        omega
    have := this l hm
    omega
  · obtain ⟨d, hd, hc⟩ := List.mem_flatMap.mp hc
    exact (key d (h.2.2 d hd)).2 c hc
theorem Hm.new {F : Addr} {H : Hp} {o : HO} (n : H F = none) : Same H (Hm F (_root_.L2.upd H F o)) := fun b u e => by
  have nb : b ≠ F := ne_of_none e n
  rw [Hm.ne nb, upd_ne nb]
  exact e
theorem Hm.updE {F : Addr} {H : Hp} {o : HO} : Hm F (_root_.L2.upd H F o) = Hm F H := by
  funext b
  by_cases n : b = F
  · unfold Hm
    rw [if_pos n, if_pos n]
  · rw [Hm.ne n, Hm.ne n, upd_ne n]
theorem Dr.hm {p F : Addr} {k : Nat} {H H' : Hp} (d : Dr p k H H') (n : F ≠ p) : Dr p k (Hm F H) (Hm F H') := by
  refine ⟨fun b o nb e => ?_, ?_⟩
  · by_cases nf : b = F
    · rw [nf] at e
      unfold Hm at e
      rw [if_pos rfl] at e
      cases e
    · rw [Hm.ne nf] at e ⊢
      exact d.1 b o nb e
  · obtain ⟨a, b, c, h1, h2⟩ := d.2
    exact ⟨a, b, c, by rw [Hm.ne n.symm]; exact h1, h2⟩
theorem Hm.mono {F : Addr} {H H' : Hp} (s : Same H H') : Same (Hm F H) (Hm F H') := Hm.kp (Same.kp s)
section
variable {P : Program} {w : World} {K : PySem.W.Frag} {mg : Str → Option Value} {base : Heap}
def spBentS (K : PySem.W.Frag) : Sp := fun vs H Q _ => ∃ (p : Addr) (z : Str) (k : Nat), vs = [.ref p, .str z] ∧ IsNm z ∧ Pot (k + 10) H p ∧ ∀ (v : V) (H' : Hp), Dr p k H H' → (∀ D, D ≠ p → (∃ o, H D = some o) → Itm K p (Hm D H') v) → Itm K p H' v → Q v H'
theorem ok_l_bent_s (T : Txt K mg) : FnOk P w K mg base CX0 4 T.f_l_bent T.fd_l_bent ["pot", "value"] (spBentS K) := by
  refine T.F_l_bent.ok sc_l_bent (fun vs H Q E h => ?_) (fun cdv A outer s H vs Q E hr h => ?_)
  · obtain ⟨p, z, k, rfl, _⟩ := h
    rfl
  · obtain ⟨p, z, k, rfl, hz, hP, q⟩ := h
    refine ⟨_, (pss_cons (ps_if (PW.pt (pw_and (pt_val (pe_callB call_isi (by rfl) T.n_isinstance (by decide +kernel) (pa_cons (pv 1) (pa_cons (pe_bltn (v := .ty "tuple") (by rfl) T.n_tuple (by decide +kernel) rfl) pa_nil)))) pw_dead)) pss_dead pss_nil)
  (pss_cons (ps_if (pt_val (pe_callB call_isi (by rfl) T.n_isinstance (by decide +kernel) (pa_cons (pv 1) (pa_cons (pe_bltn (v := .ty "tuple") (by rfl) T.n_tuple (by decide +kernel) rfl) pa_nil)))) pss_dead pss_nil)
  (pss_cons (ps_if (pt_val (pe_callB call_isi (by rfl) T.n_isinstance (by decide +kernel) (pa_cons (pv 1) (pa_cons (pe_bltn (v := .ty "bool") (by rfl) T.n_bool (by decide +kernel) rfl) pa_nil)))) pss_dead pss_nil)
  (pss_cons (ps_if (pt_val (pe_callB call_isi (by rfl) T.n_isinstance (by decide +kernel) (pa_cons (pv 1) (pa_cons (pe_bltn (v := .ty "int") (by rfl) T.n_int (by decide +kernel) rfl) pa_nil)))) pss_dead pss_nil)
  (pss_cons (ps_if (PW.pt (pw_and (pt_val (pe_callB call_isi (by rfl) T.n_isinstance (by decide +kernel) (pa_cons (pv 1) (pa_cons (pe_bltn (v := .ty "str") (by rfl) T.n_str (by decide +kernel) rfl) pa_nil)))) (pw_and1 (pt_cmpR op_in_sign pe_str (pv 1) rfl)))) pss_dead pss_nil)
  (pss_cons (ps_if (PW.pt (pw_and (pt_val (pe_callB call_isi (by rfl) T.n_isinstance (by decide +kernel) (pa_cons (pv 1) (pa_cons (pe_bltn (v := .ty "str") (by rfl) T.n_str (by decide +kernel) rfl) pa_nil)))) (pw_and1 (pt_cmpR op_ne (pv 1) pe_str (nomark _))))) (pss_cons (ps_set (i := 2) sc_l_bent.nd rfl (Or.inr rfl) (pe_call (ok_l_take T) (hr.mono (by decide)) (by rfl) T.g_l_take T.F_l_take.kp T.b_l_take .nil pass0 (pa_cons (pv 0) (pa_cons (pe_callB call_len_str (by rfl) T.n_len PySem.boot_len (pa_cons (pv 1) pa_nil)) pa_nil))))
  (pss_cons (ps_setLc (i := 3) (own := [("sign", 4)]) (g := gName 4) (by rfl) sc_l_bent.nd rfl rfl (sw_true rfl rfl rfl (by decide +kernel)) (pi_list (pe_call (ok_l_some T) (hr.mono (by decide)) (by rfl) T.g_l_some T.F_l_some.kp T.b_l_some .nil pass0 (pa_cons (pv 0) (pa_cons (pe_callTy (call_list_text rfl) (by rfl) T.n_list (by decide +kernel) (pa_cons pe_str pa_nil)) (pa_cons pe_int pa_nil))))) (blkOk_by (own := [("sign", 4)]) (by rfl)) (fun _ _ _ _ _ => (pg_name (i := 4) sc_l_bent.nd rfl (Or.inl rfl))) (fun _ _ _ _ _ => pts_nil) (fun _ _ _ _ _ => (pe_op op_add_str (pe_op op_add_str (pe_slice sl_str (pv 1) po_none (po_some (pv 2))) (pv 4)) (pe_slice sl_str (pv 1) (po_some (pe_op op_add (pv 2) pe_int)) po_none))))
  (pss_one (ps_ret (pe_call (ok_l_of T) (hr.mono (by decide)) (by rfl) T.g_l_of T.F_l_of.kp T.b_l_of .nil pass0 (pa_cons (pv 0) (pa_cons (pe_op op_cat (pv 3) (pe_lst (pa_cons (pe_op op_add_str (pv 1) pe_str) (pa_cons (pe_slice sl_str (pv 1) (po_some pe_int) po_none) (pa_cons (pe_upper (pv 1)) (pa_cons (pe_lst (pa_cons (pv 1) pa_nil)) (pa_cons pe_non (pa_cons (pe_op op_add_str pe_str (pv 1)) (pa_cons (pe_tup (pa_cons (pv 1) pa_nil)) pa_nil))))))))) pa_nil))))))) pss_nil)
  pss_dead)))))), ?_⟩
    refine ⟨.str z, rfl, _, _, _, _, false, rfl, .ty _, .base (.str z), kit_ty (by decide +kernel), ?_⟩
    refine ⟨_, rfl, ?_⟩
    refine iteF ?_
    refine iteF ?_
    dsimp only [tNext, tSeq]
    refine ⟨.str z, rfl, _, _, _, _, false, rfl, .ty _, .base (.str z), kit_ty (by decide +kernel), ?_⟩
    refine ⟨_, rfl, ?_⟩
    refine iteF ?_
    dsimp only [tNext, tSeq]
    refine ⟨.str z, rfl, _, _, _, _, false, rfl, .ty _, .base (.str z), kit_ty (by decide +kernel), ?_⟩
    refine ⟨_, rfl, ?_⟩
    refine iteF ?_
    dsimp only [tNext, tSeq]
    refine ⟨.str z, rfl, _, _, _, _, false, rfl, .ty _, .base (.str z), kit_ty (by decide +kernel), ?_⟩
    refine ⟨_, rfl, ?_⟩
    refine iteF ?_
    dsimp only [tNext, tSeq]
    refine ⟨.str z, rfl, _, _, _, _, true, rfl, .ty _, .base (.str z), kit_ty (by decide +kernel), ?_⟩
    refine ⟨_, rfl, ?_⟩
    refine iteT ?_
    have hlen : z.length ≤ 4 := hz.2.1
    have nonl : (10 : Nat) ∉ z.cps.toList := fun h => absurd (hz.2.2 10 h) (by decide)
    have wide : ∀ {n : Nat}, n ≤ 1000 → n ≤ sizeLine := fun h => Nat.le_trans h (by decide)
    have szl : z.length ≤ sizeLine := wide (by omega)
    refine ⟨.str z, rfl, 10, z, congrArg V.str (by decide +kernel), rfl, _, rfl, ?_⟩
    rw [decide_eq_false nonl]
    refine iteF ?_
    dsimp only [tNext, tSeq]
    refine ⟨.str z, rfl, _, _, _, _, true, rfl, .ty _, .base (.str z), kit_ty (by decide +kernel), ?_⟩
    refine ⟨_, rfl, ?_⟩
    refine iteT ?_
    have zne : z ≠ "" := fun e => by
      have := hz.1
      rw [e] at this
      exact absurd this (by decide)
    refine ⟨.str z, rfl, rfl, _, rfl, ?_⟩
    rw [show decide (V.str z = V.str "") = false from decide_eq_false fun e => zne (V.str.inj e)]
    refine iteT ?_
    refine ⟨.ref p, rfl, .str z, rfl, z, rfl, szl, p, (z.length : Int), k + 9, rfl, hP, by have := hz.1; omega, by omega, fun at0 H1 a0 a1 d1 => ?_⟩
    have hs := sm_nm hz
    refine ⟨.ref p, rfl, "abxyz019- ", rfl, wide (show ("abxyz019- " : Str).length ≤ 1000 by decide +kernel), fun l hl => ?_⟩
    have dl := d1.new (o := .lst (("abxyz019- " : Str).cps.toList.map sgn)) hl
    have gl : (upd H1 l (.lst (("abxyz019- " : Str).cps.toList.map sgn))) l = some (.lst (("abxyz019- " : Str).cps.toList.map sgn)) := upd_same
    have nlp := d1.2.ne hl
    generalize upd H1 l (.lst (("abxyz019- " : Str).cps.toList.map sgn)) = H2 at *
    refine ⟨p, l, _, 4, k + 5, rfl, dl.2, SqL.of gl, nlp, by rw [List.length_map]; decide +kernel, by rw [List.length_map]; decide +kernel, fun q1 ys zs H3 ly pm d3 nq1 nqp gq => ?_⟩
    have dm := dl.trans d3
    refine ⟨q1, rfl, ⟨_, SqL.of gq⟩, fun D hD => ?_⟩
    have sg : ∀ y ∈ ys, ∃ s, y = .str s ∧ Sm 1 s := fun y hy => by
      have h := pm.mem_iff.mp (List.mem_append.mpr (.inl hy))
      obtain ⟨c, hc, rfl⟩ := List.mem_map.mp h
      have hb : ∀ c ∈ ("abxyz019- " : Str).cps.toList, c < 16 ^ 8 := by decide +kernel
      exact ⟨mk [c], sgn_mk c, sm_of (l := [c]) rfl (Nat.le_refl _) fun d hd => by rw [List.mem_singleton.mp hd]; exact hb c hc⟩
    have cat : ∀ {y z : Str} {n m : Nat}, Sm n y → Sm m z → n + m ≤ 1000 → y.length + z.length ≤ sizeLine := fun h k e => wide (Nat.le_trans (Nat.add_le_add h.1 k.1) e)
    refine lc_list (K := K) (a := q1) (xs := ys) (fun i H' => Same H3 H' ∧ ∃ acc : List V, H' D = some (.lst acc) ∧ acc.length = i ∧ ∀ x ∈ acc, ∃ s, x = .str s ∧ Sm 9 s) ⟨same_new hD, [], upd_same, rfl, fun x hx => by cases hx⟩ (fun i H' _ ⟨s, _⟩ => SqL.of (s _ _ gq)) ?_ ?_
    · rintro i y H4 hy ⟨s4, acc, ga, la, ha⟩
      obtain ⟨s, rfl, hsg⟩ := sg y (List.mem_of_getElem? hy)
      have hi : i < 4 := by
        have := (List.getElem?_eq_some_iff.mp hy).1
        omega
      refine ⟨rfl, ?_⟩
      refine ⟨.str z, rfl, .int at0, rfl, at0, rfl, z, rfl, szl, .str s, rfl, _, _, rfl, rfl, cat (sm_cut hs _ _) hsg (by decide), .str z, rfl, .int at0, rfl, _, _, rfl, rfl, _, rfl, z, rfl, szl, _, _, rfl, rfl, cat (sm_app (sm_cut hs _ _) hsg) (sm_cut hs _ _) (by decide), acc, ga, small1000 (by omega), fun b o e => ?_, acc ++ [_], upd_same, by rw [List.length_append, la]; rfl, fun x hx => ?_⟩
      · rw [upd_ne (ne_of_none e hD)]
        exact s4 _ _ e
      · rcases List.mem_append.mp hx with hx | hx
        · exact ha x hx
        · rw [List.mem_singleton.mp hx]
          exact ⟨_, rfl, sm_app (sm_app (sm_cut hs _ _) hsg) (sm_cut hs _ _)⟩
    · rintro H4 ⟨s4, acc, ga, la, ha⟩
      have d4 := dm.sm s4
      have nDp : D ≠ p := dm.2.ne hD
      have ha4 : Sm 1 "a" := sm_of (l := [97]) (by decide +kernel) (by decide) (by decide)
      have hm4 : Sm 1 "-" := sm_of (l := [45]) (by decide +kernel) (by decide) (by decide)
      refine ⟨.ref p, rfl, .ref D, rfl, .str z, rfl, _, _, rfl, rfl, cat hs ha4 (by decide), .str z, rfl, 1, rfl, z, rfl, szl, .str z, rfl, ⟨_, rfl⟩, z, rfl, rfl, by omega, .str z, rfl, wide (show 1 ≤ 1000 by decide), fun l1 hl1 => ?_⟩
      have d5 := d4.new (o := .lst [.str z]) hl1
      have g5 : (upd H4 l1 (.lst [.str z])) l1 = some (.lst [.str z]) := upd_same
      have ga5 := same_new (o := .lst [.str z]) hl1 _ _ ga
      have n1p := d4.2.ne hl1
      generalize upd H4 l1 (.lst [.str z]) = H5 at *
      refine ⟨.str z, rfl, _, _, rfl, rfl, cat hm4 hs (by decide), .str z, rfl, wide (show 1 ≤ 1000 by decide), fun t1 ht1 => ?_⟩
      have d6 := d5.new (o := .tup [.str z]) ht1
      have g6 : (upd H5 t1 (.tup [.str z])) t1 = some (.tup [.str z]) := upd_same
      have g56 := same_new (o := .tup [.str z]) ht1 _ _ g5
      have ga6 := same_new (o := .tup [.str z]) ht1 _ _ ga5
      have n2p := d5.2.ne ht1
      generalize upd H5 t1 (.tup [.str z]) = H6 at *
      refine ⟨wide (show 7 ≤ 1000 by decide), fun l2 hl2 => ?_⟩
      obtain ⟨xs2, hx2⟩ : ∃ xs2 : List V, xs2 = [.str (z ++ "a"), .str (cutS z (some 1) none), .str (Txt.upper z), .ref l1, .non, .str ("-" ++ z), .ref t1] := ⟨_, rfl⟩
      have lx2 : xs2.length = 7 := by
        rw [hx2]
        rfl
      have i2 : ∀ {HH : Hp}, HH l1 = some (.lst [.str z]) → HH t1 = some (.tup [.str z]) → ∀ x ∈ xs2, Itm K p HH x := by
        rw [hx2]
        intro HH g56 g6 x hx
        simp only [List.mem_cons, List.mem_nil_iff, or_false] at hx
        rcases hx with rfl | rfl | rfl | rfl | rfl | rfl | rfl
        · exact ((sm_app hs ha4).lf (by decide)).itm
        · exact ((sm_cut hs _ _).lf (by decide)).itm
        · exact ((sm_upper hz).lf (by decide)).itm
        · exact itm_lst g56 n1p (.cons (lf_nm hz) .nil) (by show 1 ≤ 20; decide)
        · exact lf_non.itm
        · exact ((sm_app hm4 hs).lf (by decide)).itm
        · exact itm_tup g6 n2p (.cons (lf_nm hz) .nil) (by show 1 ≤ 20; decide)
      rw [← hx2]
      have s7 := same_new (o := .lst xs2) hl2
      have d7 := d6.new (o := .lst xs2) hl2
      refine ⟨D, l2, acc, xs2, rfl, rfl, s7 _ _ ga6, upd_same, wide (by rw [la, lx2, ly]; decide), fun l3 hl3 => ?_⟩
      have s8 := same_new (o := .lst (acc ++ xs2)) hl3
      have d8 := d7.new (o := .lst (acc ++ xs2)) hl3
      refine ⟨p, l3, acc ++ xs2, k, rfl, d8.2.mono (by omega), SqL.of upd_same, d7.2.ne hl3, by rw [List.length_append, la, lx2]; omega, by rw [List.length_append, la, lx2, ly]; decide, fun i x H' hx d9 => ?_⟩
      have any : ∀ {HH : Hp}, HH l1 = some (.lst [.str z]) → HH t1 = some (.tup [.str z]) → Itm K p HH x := fun {HH} e1 e2 => by
        rcases List.mem_append.mp (List.mem_of_getElem? hx) with hx | hx
        · obtain ⟨s, rfl, h⟩ := ha x hx
          exact (h.lf (by decide)).itm
        · exact i2 e1 e2 x hx
      have e1 := d9.st n1p (s8 _ _ (s7 _ _ g56))
      have e2 := d9.st n2p (s8 _ _ (s7 _ _ g6))
      refine q x H' (d8.trans d9) (fun D hDp hD => ?_) (any e1 e2)
      obtain ⟨oD, hoD⟩ := hD
      have d1l := d4.st hDp hoD
      have nl1 : l1 ≠ D := fun z => by
        rw [← z, hl1] at d1l
        cases d1l
      have d2l := d5.st hDp hoD
      have nt1 : t1 ≠ D := fun z => by
        rw [← z, ht1] at d2l
        cases d2l
      exact any (by rw [Hm.ne nl1]; exact e1) (by rw [Hm.ne nt1]; exact e2)
end
end OG
set_option Elab.async false
set_option linter.all false
set_option maxRecDepth 100000
set_option maxHeartbeats 8000000
namespace OG
open PySem PySem.Spec PyProof.Rows L2
theorem fresh_ne {H : Hp} {p r : Addr} (hp : ∃ o, H p = some o) (n : H r = none) : r ≠ p := fun z => by
  obtain ⟨o, h⟩ := hp
  rw [z, h] at n
  cases n
theorem cat_any {K : PySem.W.Frag} {H : Hp} {p a b : Addr} {xs ys : List V} {Q : VK} (hp : ∃ o, H p = some o) (ha : H a = some (.tup xs)) (hb : H b = some (.tup ys)) (na : a ≠ p) (nb : b ≠ p) (hl : xs.length + ys.length ≤ sizeLine)
    (q : ∀ (r : Addr) (H' : Hp), Same H H' → r ≠ p → (r = a ∨ r = b ∨ H r = none) → H' r = some (.tup (xs ++ ys)) → Q (.ref r) H') : rCatA K (.ref a) (.ref b) H Q := by
  refine ⟨a, b, xs, ys, rfl, rfl, SqT.of ha, SqT.of hb, hl, fun e => ?_, fun _ e => ?_, fun _ _ r hr => ?_⟩
  · refine q b H (Same.refl _) nb (.inr (.inl rfl)) ?_
    rw [e]
    exact hb
  · refine q a H (Same.refl _) na (.inl rfl) ?_
    rw [e, List.append_nil]
    exact ha
  · exact q r _ (same_new hr) (fresh_ne hp hr) (.inr (.inr hr)) upd_same
theorem cut_whole {xs : List V} {lo hi : Option Int} (h : HT.sIx xs.length 0 lo = 0 ∧ HT.sIx xs.length xs.length hi = xs.length) : cutV xs lo hi = xs := by
  unfold cutV
  rw [h.1, h.2, List.drop_zero, Nat.sub_zero, List.take_length]
theorem slice_any {K : PySem.W.Frag} {H : Hp} {p a : Addr} {xs : List V} {lo hi : Option Int} {Q : VK} (hp : ∃ o, H p = some o) (ha : H a = some (.tup xs)) (na : a ≠ p)
    (q : ∀ (r : Addr) (H' : Hp), Same H H' → r ≠ p → (r = a ∨ H r = none) → H' r = some (.tup (cutV xs lo hi)) → Q (.ref r) H') : rSlA K (.ref a) lo hi H Q := by
  refine ⟨a, xs, rfl, SqT.of ha, fun h => ?_, fun _ r hr => ?_⟩
  · refine q a H (Same.refl _) na (.inl rfl) ?_
    rw [cut_whole h]
    exact ha
  · exact q r _ (same_new hr) (fresh_ne hp hr) (.inr hr) upd_same
theorem cut_mem {xs : List V} {lo hi : Option Int} {x : V} (h : x ∈ cutV xs lo hi) : x ∈ xs := by
  unfold cutV at h
  exact List.mem_of_mem_drop (List.mem_of_mem_take h)
end OG
set_option Elab.async false
set_option linter.all false
set_option maxRecDepth 100000
set_option maxHeartbeats 4000000
namespace OGX
open PySem PySem.Spec PyProof.Rows L2 HT
theorem back_bounds (n : Nat) : Builtin.Slice.sliceAdjust none none (-1) (n : Int) = ((n : Int) - 1, -1) := rfl
theorem back_places (n : Nat) : Builtin.Slice.slicePlaces ((n : Int) - 1) (-1) (-1) = n := by
  unfold Builtin.Slice.slicePlaces
  rw [if_neg (by decide)]
  by_cases h : n = 0
  · subst h
    rfl
  · rw [if_pos (by omega)]
    have e : ((n : Int) - 1 - -1 - 1) / (- -1) + 1 = (n : Int) := by
      rw [show (- -1 : Int) = 1 from rfl, Int.ediv_one]
      omega
    rw [e]
    rfl
theorem back_pick (xs : Array Value) : ((List.range xs.size).filterMap fun (m : Nat) => xs[(((xs.size : Int) - 1) + (m : Int) * -1).toNat]?).toArray = xs.toList.reverse.toArray := by
  have e : (fun (m : Nat) => xs[(((xs.size : Int) - 1) + (m : Int) * -1).toNat]?) = (fun i => xs[i]?) ∘ fun m => xs.size - 1 - m := by
    funext m
    show _ = xs[xs.size - 1 - m]?
    rw [show (((xs.size : Int) - 1) + (m : Int) * -1).toNat = xs.size - 1 - m by omega]
  rw [e, ← List.filterMap_map, PySem.W.krv_range, List.filterMap_reverse, PySem.W.krv_all]
section
variable {P : Program} {w : World} {A : Around} {E : Value → Shared → Prop} {s : Shared} {t sl : Addr} {items : Array Value}
theorem applied_back {t1 : Tok} {n : Nat} {Q : Int × Int × Nat → Shared → Prop} (hs : s.heap.IsSliceOf sl .none .none (.int (-1) t1)) (q : Q ((n : Int) - 1, -1, n) s) : wpAny (model P w) A (Builtin.Slice.sliceApplied (.ref sl) (pure (n : Int))) Q E s := by
  obtain ⟨o, ho, hc, hd⟩ := id hs
  unfold Builtin.Slice.sliceApplied Builtin.Slice.sliceFields
  refine wpAny_bind (wpAny_bind (wpAny_field ho hd (x := .none) rfl (wpAny_bind (wpAny_field ho hd (x := .none) rfl (wpAny_bind (wpAny_field ho hd (x := .int (-1) t1) rfl (wpAny_pure ?_)))))))
  refine wpAny_bind (slicePart_ (.int (-1) t1) ?_)
  change wpAny _ _ (if ((-1 : Int) == 0) = true then _ else _) _ _ s
  rw [if_neg (by decide)]
  refine wpAny_bind (slicePart_ .none (wpAny_bind (slicePart_ .none (wpAny_bind (wpAny_pure ?_)))))
  change wpAny _ _ (match Builtin.Slice.sliceAdjust none none (-1) (n : Int) with | (lo, hi) => pure (lo, (-1 : Int), Builtin.Slice.slicePlaces lo hi (-1))) _ _ s
  rw [back_bounds]
  change wpAny _ _ (pure ((n : Int) - 1, (-1 : Int), Builtin.Slice.slicePlaces ((n : Int) - 1) (-1) (-1))) _ _ s
  rw [back_places]
  exact wpAny_pure q
theorem item_back {t1 : Tok} {Q : Value → Shared → Prop} (ht : IsTup s.heap t items) (hs : s.heap.IsSliceOf sl .none .none (.int (-1) t1)) (hz : items.size ≤ sizeLine)
    (q : Q (.ref s.heap.objs.size) { s with heap := s.heap.push { cls := .type "tuple", data := .seq items.toList.reverse.toArray } }) : wpAny (model P w) A (getItem (.ref t) (.ref sl)) Q E s := by
  have fits : sizeOk (.seq items.toList.reverse.toArray) := by
    show items.toList.reverse.toArray.size ≤ sizeLine
    rw [List.size_toArray, List.length_reverse, Array.length_toList]
    exact hz
  obtain ⟨o, ho, hc, hd⟩ := id hs
  have ty : s.TypeIs (.ref sl) "slice" := ⟨o, ho, hc⟩
  unfold getItem
  try with_reducible refine wpAny_holding ?_
  first | refine wpAny_bind (wpAny_pure ?_) | skip
  refine wpAny_bind (wpAny_sequenceKey ht.typeIs (by decide) ?_)
  refine wpAny_bind (wpAny_callSpecial?_slot (name := Str.ofString "__getitem__") ht.typeIs PyProof.Rows.slot_tuple_getitem (wpAny_call_entry PyProof.Rows.slot_tuple_getitem ht.typeIs entry_tuple_getitem ?_ (args_tuple_getitem _ _)))
  change wpAny _ _ (Builtin.Tuple.tupleItemsOf (.ref t) >>= _) _ _ s
  refine wpAny_bind (tupleItemsOf_ ht (wpAny_bind (wpAny_typeOf ty ?_)))
  rw [if_pos (by decide)]
  refine wpAny_bind (applied_back hs ?_)
  change wpAny _ _ (if (((items.size : Int) - 1) == 0 && (-1 : Int) == 1 && items.size == items.size) = true then _ else _) _ _ s
  rw [if_neg (by simp), back_pick]
  first
    | exact wpAny_bind (m := Builtin.Tuple.tupleExact _) (wpAny_newObj_type (wpAny_pure ⟨_, rfl, wpAny_pure q⟩) fits)
    | exact wpAny_bind (m := Builtin.Tuple.tupleExact _) (wpAny_newObj_type (wpAny_bind (wpAny_pure (wpAny_pure ⟨_, rfl, wpAny_pure q⟩))) fits)
    | exact wpAny_bind (wpAny_bind (m := Builtin.Tuple.tupleExact _) (wpAny_newObj_type (wpAny_pure (wpAny_pure ⟨_, rfl, wpAny_pure q⟩)) fits))
    | exact wpAny_bind (wpAny_bind (m := Builtin.Tuple.tupleExact _) (wpAny_newObj_type (wpAny_pure ⟨_, rfl, wpAny_pure q⟩) fits))
end
/-- t[::-1], t a tuple -/
def tRevT (K : PySem.W.Frag) (te : TE) : TE := fun σ H Q => te σ H fun x H1 => ∃ a xs, x = .ref a ∧ SqT K H1 a xs ∧ ∀ p, H1 p = none → Q (.ref p) (upd H1 p (.tup xs.reverse))
theorem pe_revT {X : Cx} {e : Expr} {te : TE} {k : Nat} {p1 p2 p3 pos : Pos} (he : PE X e te) : PE X (.Subscript e (.Slice none none (some (.UnaryOp .USub (.Constant (.int 1) k p1) p2)) p3) pos) (tRevT X.K te) := by
  constructor
  intro pins s σ H Q I h
  refine Subscript_ (thn (he.run pins s σ H _ I h) fun v s1 hv => ?_)
  obtain ⟨_, H1, I1, r1, a, xs, rfl, hx, q⟩ := hv
  cases r1
  have st : PO X (some (.UnaryOp .USub (.Constant (.int 1) k p1) p2)) (tPart (tUn (rU fun i => .int (-i)) (tC (.int 1)))) := po_some (pe_un un_neg pe_int)
  refine wpAny_Slice (thn (po_none.run pins s1 σ H1 (fun o H2 => o = none ∧ H2 = H1) I1 ⟨rfl, rfl⟩) fun vl s2 h2 => ?_)
  obtain ⟨_, H2, I2, pl, rfl, e2⟩ := h2
  have e2 := e2.symm
  subst e2
  refine thn (po_none.run pins s2 σ _ (fun o H3 => o = none ∧ H3 = H1) I2 ⟨rfl, rfl⟩) fun vu s3 h3 => ?_
  obtain ⟨_, H3, I3, pu, rfl, e3⟩ := h3
  have e3 := e3.symm
  subst e3
  refine thn (st.run pins s3 σ _ (fun o H4 => o = some (-1) ∧ H4 = H1) I3 ⟨1, rfl, -1, rfl, rfl, rfl⟩) fun vs s4 h4 => ?_
  obtain ⟨_, H4, I4, ps, rfl, e4⟩ := h4
  have e4 := e4.symm
  subst e4
  cases pl
  cases pu
  cases ps with
  | int _ t1 =>
  have I5 : Inv X pins σ H1 { s4 with heap := s4.heap.push { cls := .type "slice", data := .fields #[.none, .none, .int (-1) t1] } } := I4.kept (t' := s4.toks) fun b ob q => Heap.get?_push_of_some _ q
  obtain ⟨its, r, ht, hz⟩ := I5.tuple hx
  have hl := r.length
  change wpAny (model X.prog X.w) X.A (subscriptTail e (.Slice none none (some (.UnaryOp .USub (.Constant (.int 1) k p1) p2)) p3) (.ref a) (.ref s4.heap.objs.size)) (EP X pins σ Q) X.xe { s4 with heap := s4.heap.push { cls := .type "slice", data := .fields #[.none, .none, .int (-1) t1] } }
  refine tail_any (ops := [.ref a, .ref s4.heap.objs.size]) ht.typeIs PyProof.Rows.slot_tuple_getitem.lookup ?_ (by with_unfolding_all rfl)
  refine item_back ht (Heap.IsSliceOf.new _ .none .none (.int (-1) t1)) (by rw [List.size_toArray]; omega) ?_
  refine ⟨.ref _, _, I5.laid (t' := s4.toks) (o := .tup xs.reverse) (fun b ob q => Heap.get?_push_of_some _ q) (Nat.le_refl _) ?_, rfl, q _ (I5.hok.fresh (Nat.le_refl _))⟩
  refine ⟨by rw [List.length_reverse]; exact hz, its.reverse, r.reverse, _, Heap.get?_push_size _ rfl, rfl, 0, ?_⟩
  simp
end OGX
set_option Elab.async false
set_option linter.all false
set_option maxRecDepth 100000
set_option maxHeartbeats 8000000
namespace OG
open PySem PySem.Spec PyProof.Rows L2
theorem nm_ok3 {z : Str} (h : IsNm z) : PyData.strOk z = true := by
  unfold PyData.strOk
  rw [Array.all_eq_true_iff_forall_mem]
  intro c hc
  have h1 := h.2.2 c (Array.mem_toList_iff.mpr hc)
  have h2 : ∀ c ∈ abc, c < 0x110000 := by decide +kernel
  exact decide_eq_true (h2 c h1)
theorem dep_strs3 : ∀ zs : List Str, PyData.depthAll (zs.map PyData.str) = 0
  | [] => by simp only [List.map_nil, PyData.depthAll]
  | z :: r => by
    simp only [List.map_cons, PyData.depthAll, PyData.depth, dep_strs3 r]
    rfl
theorem eqv_none3 {ds : List PyData} : PyData.eqv (.tuple ds) (.tuple []) = decide (ds = []) := by
  cases ds with
  | nil => simp [PyData.eqv, PyData.eqvAll]
  | cons d r => simp [PyData.eqv, PyData.eqvAll]
section
variable {P : Program} {w : World} {K : PySem.W.Frag} {mg : Str → Option Value} {base : Heap}
def spBentT (K : PySem.W.Frag) : Sp := fun vs H Q _ => ∃ (p t : Addr) (ms : List Str) (k : Nat), vs = [.ref p, .ref t] ∧ H t = some (.tup (ms.map V.str)) ∧ (∀ z ∈ ms, IsNm z) ∧ 1 ≤ ms.length ∧ ms.length ≤ 4 ∧ Pot (k + 20) H p ∧ ∀ (v : V) (H' : Hp), Dr p k H H' → (∀ D, D ≠ p → D ≠ t → (∃ o, H D = some o) → Val K p (Hm D H') v) → Val K p H' v → Q v H'
theorem ok_l_bent (T : Txt K mg) : FnOk P w K mg base CX0 5 T.f_l_bent T.fd_l_bent ["pot", "value"] (spBentT K) := by
  refine T.F_l_bent.ok sc_l_bent (fun vs H Q E h => ?_) (fun cdv A outer s H vs Q E hr h => ?_)
  · obtain ⟨p, t, ms, k, rfl, _⟩ := h
    rfl
  · obtain ⟨p, t, ms, k, rfl, hT, hms, m1, m4, hP, q⟩ := h
    refine ⟨_, (pss_cons (ps_if (PW.pt (pw_and (pt_val (pe_callB call_isi (by rfl) T.n_isinstance (by decide +kernel) (pa_cons (pv 1) (pa_cons (pe_bltn (v := .ty "tuple") (by rfl) T.n_tuple (by decide +kernel) rfl) pa_nil)))) (pw_and (pt_cmpR (op_neD hr.units) (pv 1) (pe_tup pa_nil) (nomark _)) (pw_and1 (pt_cmpR op_gt (pe_call (ok_l_take T) (hr.mono (by decide)) (by rfl) T.g_l_take T.F_l_take.kp T.b_l_take .nil pass0 (pa_cons (pv 0) (pa_cons pe_int pa_nil))) pe_int (nomark _)))))) (pss_cons (ps_set (i := 2) sc_l_bent.nd rfl (Or.inr rfl) (pe_call (ok_l_take T) (hr.mono (by decide)) (by rfl) T.g_l_take T.F_l_take.kp T.b_l_take .nil pass0 (pa_cons (pv 0) (pa_cons (pe_callB call_len_seq (by rfl) T.n_len PySem.boot_len (pa_cons (pv 1) pa_nil)) pa_nil))))
  (pss_one (ps_ret (pe_op op_catA (pe_op op_catA (pe_slice sl_tupA (pv 1) po_none (po_some (pv 2))) (pe_tup (pa_cons (pe_call (ok_l_bent_s T) (hr.mono (by decide)) (by rfl) T.g_l_bent T.F_l_bent.kp T.b_l_bent .nil pass0 (pa_cons (pv 0) (pa_cons (pe_ix ix_tup (pv 1) (pv 2) (fun _ _ => rfl)) pa_nil))) pa_nil))) (pe_slice sl_tupA (pv 1) (po_some (pe_op op_add (pv 2) pe_int)) po_none))))) pss_nil)
  (pss_cons (ps_if (pt_val (pe_callB call_isi (by rfl) T.n_isinstance (by decide +kernel) (pa_cons (pv 1) (pa_cons (pe_bltn (v := .ty "tuple") (by rfl) T.n_tuple (by decide +kernel) rfl) pa_nil)))) (pss_cons (ps_set (i := 3) sc_l_bent.nd rfl (Or.inl rfl) (pe_lst (pa_cons (pe_callTy call_list_of (by rfl) T.n_list (by decide +kernel) (pa_cons (pv 1) pa_nil)) (pa_cons (pe_slice sl_tupA (pv 1) (po_some pe_int) po_none) (pa_cons (pe_slice sl_tupA (pv 1) po_none (po_some (pe_un un_neg pe_int))) (pa_cons (pe_op op_catA (pv 1) (pe_slice sl_tupA (pv 1) (po_some (pe_un un_neg pe_int)) po_none)) (pa_cons (OGX.pe_revT (pv 1)) (pa_cons (pe_tup pa_nil) (pa_cons pe_non (pa_cons (pe_op op_catA (pv 1) (pe_tup (pa_cons pe_int pa_nil))) pa_nil))))))))))
  (pss_one (ps_ret (pe_call (ok_l_of T) (hr.mono (by decide)) (by rfl) T.g_l_of T.F_l_of.kp T.b_l_of .nil pass0 (pa_cons (pv 0) (pa_cons (pv 3) pa_nil)))))) pss_nil)
  pss_dead)), ?_⟩
    have ntp : t ≠ p := hP.neT hT
    refine ⟨.ref t, rfl, _, _, _, _, true, rfl, .ty _, .base (.tup hT), kit_ty (by decide +kernel), ?_⟩
    refine ⟨_, rfl, ?_⟩
    refine iteT ?_
    have wide : ∀ {n : Nat}, n ≤ 1000 → n ≤ sizeLine := fun h => Nat.le_trans h (by decide)
    have hne : ms ≠ [] := fun e => by
      rw [e] at m1
      exact absurd m1 (by decide)
    have lfm : ∀ {HH : Hp}, ∀ x ∈ ms.map V.str, Itm K p HH x := fun {HH} x hx => by
      obtain ⟨z, hz, rfl⟩ := List.mem_map.mp hx
      exact (lf_nm (hms z hz)).itm
    refine ⟨.ref t, rfl, Nat.zero_le _, fun te hte => ?_⟩
    have se := same_new (o := .tup []) hte
    refine ⟨_, _, .tup (SqT.of (se _ _ hT)) (dp_strs ms), .tup (SqT.of upd_same) .nil, ?_, by decide, ?_⟩
    · unfold SeqAt.shaped
      rw [Bool.and_eq_true]
      refine ⟨?_, decide_eq_true ?_⟩
      · simp only [PyData.canLay0]
        exact lay_strs fun z hz => nm_ok3 (hms z hz)
      · simp only [PyData.depth, dep_strs3]
        decide
    rw [eqv_none3, decide_eq_false (fun e => hne (List.map_eq_nil_iff.mp e))]
    refine ⟨_, rfl, ?_⟩
    refine iteT ?_
    have hP1 := hP.same se
    have hT1 := se _ _ hT
    generalize upd H te (.tup []) = H1 at *
    refine ⟨.ref p, rfl, p, 6, k + 19, rfl, hP1, by decide, by decide, fun r H2 r0 r1 d2 => ?_⟩
    have hT2 := d2.st ntp hT1
    have far : ∀ {D : Addr} {H' : Hp}, D ≠ p → (∃ o, H D = some o) → Kp p H1 H' → ∃ o, H' D = some o := fun nD hD k => hD.imp fun o h => k _ _ nD (se _ _ h)
    have nw : ∀ {D b : Addr} {H' : Hp}, D ≠ p → (∃ o, H D = some o) → Kp p H1 H' → H' b = none → b ≠ D := fun {D b H'} nD hD k hb z => by
      obtain ⟨o, h⟩ := far nD hD k
      rw [← z, hb] at h
      cases h
    have k12 := d2.1
    have d2 : Dr p (k + 19) H H2 := ⟨(Same.kp se).trans d2.1, d2.2⟩
    refine ⟨_, _, rfl, rfl, _, rfl, ?_⟩
    have lms : (ms.map V.str).length = ms.length := List.length_map ..
    have alloc : ∀ {H' : Hp}, Same H2 H' → ∃ o, H' p = some o := fun s => by
      obtain ⟨xs, h⟩ := d2.2.lst
      exact ⟨_, s _ _ h⟩
    refine ite2 (fun _ => ?_) (fun _ => ?_)
    · -- one item bent
      refine ⟨.ref p, rfl, .ref t, rfl, t, _, rfl, .inr (SqT.of hT2), ?_⟩
      rw [lms]
      refine ⟨p, (ms.length : Int), k + 18, rfl, d2.2, by omega, by omega, fun at0 H3 a0 a1 d3 => ?_⟩
      have hT3 := d3.st ntp hT2
      have d23 := d2.trans d3
      obtain ⟨i, rfl⟩ : ∃ i : Nat, at0 = (i : Int) := ⟨at0.toNat, by omega⟩
      have hi : i < ms.length := by omega
      have hmi : ms[i]? = some ms[i] := List.getElem?_eq_getElem hi
      obtain ⟨pots, hpots⟩ := d23.2.lst
      have k13 := k12.trans d3.1
      refine ⟨.ref t, rfl, .int (i : Int), rfl, (i : Int), rfl, slice_any (p := p) ⟨_, hpots⟩ hT3 ntp fun a1 H4 s4 n1 w1 g4 => ?_⟩
      have hT4 := s4 _ _ hT3
      have hP4 := d23.2.same s4
      refine ⟨.ref p, rfl, .ref t, rfl, .int (i : Int), rfl, t, _, (i : Int), .str ms[i], rfl, rfl, SqT.of hT4, atI_nat (by rw [List.getElem?_map, hmi]; rfl), p, ms[i], k + 8, rfl, hms _ (List.getElem_mem hi), hP4, fun v H5 d5 hvD hv => ⟨wide (show 1 ≤ 1000 by decide), fun b1 hb1 => ?_⟩⟩
      have s6 := same_new (o := .tup [v]) hb1
      have g6 : (upd H5 b1 (.tup [v])) b1 = some (.tup [v]) := upd_same
      have nb1 := d5.2.ne hb1
      have ga6 := s6 _ _ (d5.st n1 g4)
      have hT6 := s6 _ _ (d5.st ntp hT4)
      have hv6 := hv.same s6
      have k14 := k13.trans (Same.kp s4)
      have k15 := k14.trans d5.1
      have hvD6 : ∀ D, D ≠ p → (∃ o, H D = some o) → Itm K p (Hm D (upd H5 b1 (.tup [v]))) v := fun D nD hD => (hvD D nD (far nD hD k14)).same (Hm.mono s6)
      have hP6 := d5.2.same s6
      have k6 : Kp p H3 (upd H5 b1 (.tup [v])) := ((Same.kp s4).trans d5.1).trans (Same.kp s6)
      generalize upd H5 b1 (.tup [v]) = H6 at *
      obtain ⟨pot6, hp6⟩ := hP6.lst
      refine cat_any (p := p) ⟨_, hp6⟩ ga6 g6 n1 nb1 ?_ fun c1 H7 s7 nc1 w7 g7 => ?_
      · have := cutV_length (ms.map V.str) none (some (i : Int))
        exact wide (by rw [lms] at this; show _ + 1 ≤ 1000; omega)
      refine ⟨.ref t, rfl, .int (i : Int), rfl, _, _, rfl, rfl, _, rfl, ?_⟩
      dsimp only [tNoPart]
      refine slice_any (p := p) ⟨_, s7 _ _ hp6⟩ (s7 _ _ hT6) ntp fun c2 H8 s8 nc2 w8 g8 => ?_
      refine cat_any (p := p) ⟨_, s8 _ _ (s7 _ _ hp6)⟩ (s8 _ _ g7) g8 nc1 nc2 ?_ fun c3 H9 s9 nc3 w9 g9 => ?_
      · have := cutV_length (ms.map V.str) none (some (i : Int))
        have := cutV_length (ms.map V.str) (some ((i : Int) + 1)) none
        rw [List.length_append]
        exact wide (by rw [lms] at *; show _ + 1 + _ ≤ 1000; omega)
      have s69 := (s7.trans s8).trans s9
      have len : (cutV (ms.map V.str) none (some (i : Int)) ++ [v] ++ cutV (ms.map V.str) (some ((i : Int) + 1)) none).length ≤ 20 := by
        have := cutV_length (ms.map V.str) none (some (i : Int))
        have := cutV_length (ms.map V.str) (some ((i : Int) + 1)) none
        rw [List.length_append, List.length_append]
        rw [lms] at *
        show _ + 1 + _ ≤ 20
        omega
      have any : ∀ {HH : Hp}, HH c3 = some (.tup (cutV (ms.map V.str) none (some (i : Int)) ++ [v] ++ cutV (ms.map V.str) (some ((i : Int) + 1)) none)) → Itm K p HH v → Val K p HH (.ref c3) := fun {HH} e ev => by
        refine val_tup e nc3 (fun x hx => ?_) len
        rcases List.mem_append.mp hx with hx | hx
        · rcases List.mem_append.mp hx with hx | hx
          · exact lfm x (cut_mem hx)
          · rw [List.mem_singleton.mp hx]
            exact ev
        · exact lfm x (cut_mem hx)
      refine q _ _ ⟨(d23.1.trans k6).trans (Same.kp s69), (hP6.same s69).mono (by omega)⟩ (fun D nD ntD hD => ?_) (any g9 (hv6.same s69))
      have k16 := k15.trans (Same.kp s6)
      have na1 : a1 ≠ D := w1.elim (fun e z => ntD (by rw [← z, e])) fun e => nw nD hD k13 e
      have nb1' : b1 ≠ D := nw nD hD k15 hb1
      have nc1' : c1 ≠ D := w7.elim (fun e z => na1 (by rw [← e, z])) fun w => w.elim (fun e z => nb1' (by rw [← e, z])) fun e => nw nD hD k16 e
      have k17 := k16.trans (Same.kp s7)
      have nc2' : c2 ≠ D := w8.elim (fun e z => ntD (by rw [← z, e])) fun e => nw nD hD k17 e
      have nc3' : c3 ≠ D := w9.elim (fun e z => nc1' (by rw [← e, z])) fun w => w.elim (fun e z => nc2' (by rw [← e, z])) fun e => nw nD hD (k17.trans (Same.kp s8)) e
      exact any (by rw [Hm.ne nc3']; exact g9) ((hvD6 D nD hD).same (Hm.mono s69))
    · dsimp only [tNext, tSeq]
      refine ⟨.ref t, rfl, _, _, _, _, true, rfl, .ty _, .base (.tup hT2), kit_ty (by decide +kernel), ?_⟩
      refine ⟨_, rfl, ?_⟩
      refine iteT ?_
      obtain ⟨pots, hpots⟩ := d2.2.lst
      refine ⟨.ref t, rfl, t, _, rfl, .inr (SqT.of hT2), fun b1 hb1 => ?_⟩
      have s3 := same_new (o := .lst (ms.map V.str)) hb1
      have g1 : (upd H2 b1 (.lst (ms.map V.str))) b1 = some (.lst (ms.map V.str)) := upd_same
      have n1 : b1 ≠ p := d2.2.ne hb1
      generalize upd H2 b1 (.lst (ms.map V.str)) = H3 at *
      refine ⟨.ref t, rfl, 1, rfl, ?_⟩
      dsimp only [tNoPart]
      refine slice_any (p := p) ⟨_, s3 _ _ hpots⟩ (s3 _ _ hT2) ntp fun b2 H4 s4 n2 w2 g2 => ?_
      have s24 := s3.trans s4
      refine ⟨.ref t, rfl, 1, rfl, -1, rfl, slice_any (p := p) ⟨_, s24 _ _ hpots⟩ (s24 _ _ hT2) ntp fun b3 H5 s5 n3 w3 g3 => ?_⟩
      have s25 := s24.trans s5
      refine ⟨.ref t, rfl, .ref t, rfl, 1, rfl, -1, rfl, ?_⟩
      dsimp only [tNoPart]
      refine slice_any (p := p) ⟨_, s25 _ _ hpots⟩ (s25 _ _ hT2) ntp fun b4 H6 s6 n4 w4 g4 => ?_
      have s26 := s25.trans s6
      refine cat_any (p := p) ⟨_, s26 _ _ hpots⟩ (s26 _ _ hT2) g4 ntp n4 ?_ fun b5 H7 s7 n5 w5 g5 => ?_
      · have := cutV_length (ms.map V.str) (some (-1)) none
        exact wide (by rw [lms] at *; omega)
      have s27 := s26.trans s7
      refine ⟨.ref t, rfl, t, _, rfl, SqT.of (s27 _ _ hT2), fun b6 hb6 => ?_⟩
      have s8 := same_new (o := .tup (ms.map V.str).reverse) hb6
      have g6 : (upd H7 b6 (.tup (ms.map V.str).reverse)) b6 = some (.tup (ms.map V.str).reverse) := upd_same
      have n6 : b6 ≠ p := fresh_ne ⟨_, s27 _ _ hpots⟩ hb6
      generalize upd H7 b6 (.tup (ms.map V.str).reverse) = H8 at *
      have s28 := s27.trans s8
      refine ⟨Nat.zero_le _, fun b7 hb7 => ?_⟩
      have s9 := same_new (o := .tup []) hb7
      have g7 : (upd H8 b7 (.tup [])) b7 = some (.tup []) := upd_same
      have n7 : b7 ≠ p := fresh_ne ⟨_, s28 _ _ hpots⟩ hb7
      generalize upd H8 b7 (.tup []) = H9 at *
      have s29 := s28.trans s9
      refine ⟨.ref t, rfl, wide (show 1 ≤ 1000 by decide), fun b8 hb8 => ?_⟩
      have s10 := same_new (o := .tup [.int 0]) hb8
      have g8 : (upd H9 b8 (.tup [.int 0])) b8 = some (.tup [.int 0]) := upd_same
      have n8 : b8 ≠ p := fresh_ne ⟨_, s29 _ _ hpots⟩ hb8
      generalize upd H9 b8 (.tup [.int 0]) = H10 at *
      have s210 := s29.trans s10
      refine cat_any (p := p) ⟨_, s210 _ _ hpots⟩ (s210 _ _ hT2) g8 ntp n8 (wide (by rw [lms]; show ms.length + 1 ≤ 1000; omega)) fun b9 H11 s11 n9 w9 g9 => ?_
      have s211 := s210.trans s11
      refine ⟨wide (show 8 ≤ 1000 by decide), fun L hL => ?_⟩
      have e47 := (s5.trans s6).trans s7
      have e811 := ((s8.trans s9).trans s10).trans s11
      have f1 := (((s4.trans e47).trans e811)) _ _ g1
      have f2 := (e47.trans e811) _ _ g2
      have f3 := ((s6.trans s7).trans e811) _ _ g3
      have f5 := e811 _ _ g5
      have f6 := ((s9.trans s10).trans s11) _ _ g6
      have f7 := (s10.trans s11) _ _ g7
      have vals : ∀ {HH : Hp}, HH b1 = some (.lst (ms.map V.str)) → HH b2 = some (.tup (cutV (ms.map V.str) (some 1) none)) → HH b3 = some (.tup (cutV (ms.map V.str) none (some (-1)))) → HH b5 = some (.tup (ms.map V.str ++ cutV (ms.map V.str) (some (-1)) none)) → HH b6 = some (.tup (ms.map V.str).reverse) → HH b7 = some (.tup []) → HH b9 = some (.tup (ms.map V.str ++ [.int 0])) →
          ∀ x ∈ [V.ref b1, .ref b2, .ref b3, .ref b5, .ref b6, .ref b7, .non, .ref b9], Val K p HH x := by
        intro HH f1 f2 f3 f5 f6 f7 f9 x hx
        have t11 : ∀ x ∈ ms.map V.str, Itm K p HH x := lfm
        simp only [List.mem_cons, List.mem_nil_iff, or_false] at hx
        rcases hx with rfl | rfl | rfl | rfl | rfl | rfl | rfl | rfl
        · exact val_lst f1 n1 t11 (by omega)
        · exact val_tup f2 n2 (fun x hx => t11 x (cut_mem hx)) (by have := cutV_length (ms.map V.str) (some 1) none; omega)
        · exact val_tup f3 n3 (fun x hx => t11 x (cut_mem hx)) (by have := cutV_length (ms.map V.str) none (some (-1)); omega)
        · refine val_tup f5 n5 (fun x hx => ?_) (by have := cutV_length (ms.map V.str) (some (-1)) none; rw [List.length_append]; omega)
          exact (List.mem_append.mp hx).elim (t11 x) fun hx => t11 x (cut_mem hx)
        · exact val_tup f6 n6 (fun x hx => t11 x (List.mem_reverse.mp hx)) (by rw [List.length_reverse]; omega)
        · exact val_tup f7 n7 (fun x hx => by cases hx) (by decide)
        · exact lf_non.val fun a h => by cases h
        · refine val_tup f9 n9 (fun x hx => ?_) (by rw [List.length_append]; show (ms.map V.str).length + 1 ≤ 20; omega)
          rcases List.mem_append.mp hx with hx | hx
          · exact t11 x hx
          · rw [List.mem_singleton.mp hx]
            exact (lfi 0 (by decide +kernel)).itm
      have avoid : ∀ D, D ≠ p → D ≠ t → (∃ o, H D = some o) → ∀ x ∈ [V.ref b1, .ref b2, .ref b3, .ref b5, .ref b6, .ref b7, .non, .ref b9], Val K p (Hm D H11) x := fun D nD ntD hD => by
        have k3 := k12.trans (Same.kp s3)
        have k4 := k3.trans (Same.kp s4)
        have k5 := k4.trans (Same.kp s5)
        have k6 := k5.trans (Same.kp s6)
        have k7 := k6.trans (Same.kp s7)
        have k8 := k7.trans (Same.kp s8)
        have k9 := k8.trans (Same.kp s9)
        have k10 := k9.trans (Same.kp s10)
        have m1 : b1 ≠ D := nw nD hD k12 hb1
        have m2 : b2 ≠ D := w2.elim (fun e z => ntD (by rw [← z, e])) fun e => nw nD hD k3 e
        have m3 : b3 ≠ D := w3.elim (fun e z => ntD (by rw [← z, e])) fun e => nw nD hD k4 e
        have m4' : b4 ≠ D := w4.elim (fun e z => ntD (by rw [← z, e])) fun e => nw nD hD k5 e
        have m5 : b5 ≠ D := w5.elim (fun e z => ntD (by rw [← z, e])) fun w => w.elim (fun e z => m4' (by rw [← e, z])) fun e => nw nD hD k6 e
        have m6 : b6 ≠ D := nw nD hD k7 hb6
        have m7 : b7 ≠ D := nw nD hD k8 hb7
        have m8 : b8 ≠ D := nw nD hD k9 hb8
        have m9 : b9 ≠ D := w9.elim (fun e z => ntD (by rw [← z, e])) fun w => w.elim (fun e z => m8 (by rw [← e, z])) fun e => nw nD hD k10 e
        exact vals (by rw [Hm.ne m1]; exact f1) (by rw [Hm.ne m2]; exact f2) (by rw [Hm.ne m3]; exact f3) (by rw [Hm.ne m5]; exact f5) (by rw [Hm.ne m6]; exact f6) (by rw [Hm.ne m7]; exact f7) (by rw [Hm.ne m9]; exact g9)
      have vals := vals f1 f2 f3 f5 f6 f7 g9
      obtain ⟨xsL, hxL⟩ : ∃ xsL, xsL = [V.ref b1, .ref b2, .ref b3, .ref b5, .ref b6, .ref b7, .non, .ref b9] := ⟨_, rfl⟩
      have lL : xsL.length = 8 := by
        rw [hxL]
        rfl
      rw [← hxL] at vals avoid ⊢
      have sL := same_new (o := .lst xsL) hL
      have dL : Dr p (k + 18) H (upd H11 L (.lst xsL)) := ⟨d2.1.trans (Same.kp (s211.trans sL)), (d2.2.same (s211.trans sL)).mono (by omega)⟩
      refine ⟨.ref p, rfl, .ref L, rfl, p, L, xsL, k, rfl, dL.2.mono (by omega), SqL.of upd_same, fresh_ne ⟨_, s211 _ _ hpots⟩ hL, by omega, by omega, fun i x H' hx d => ?_⟩
      refine q x H' ((dL.mono (by omega : k ≤ k + 18)).trans d) (fun D nD ntD hD => ?_) (Val.dr (Val.same (vals x (List.mem_of_getElem? hx)) sL) ⟨_, sL _ _ (s211 _ _ hpots)⟩ d)
      refine Val.dr (Val.same (avoid D nD ntD hD x (List.mem_of_getElem? hx)) (Hm.mono sL)) ?_ (d.hm nD)
      exact ⟨_, by rw [Hm.ne nD.symm]; exact sL _ _ (s211 _ _ hpots)⟩
end
end OG
set_option Elab.async false
set_option linter.all false
set_option maxRecDepth 100000
set_option maxHeartbeats 8000000
namespace OG
open PySem PySem.Spec PyProof.Rows L2
theorem small1000' {n : Nat} (h : n ≤ 1000) : n < sizeLine := Nat.lt_of_le_of_lt h (by decide)
theorem itm_nms {K : PySem.W.Frag} {p : Addr} {H : Hp} {ns : List Str} (h : ∀ z ∈ ns, IsNm z) : ∀ x ∈ ns.map V.str, Itm K p H x := fun x hx => by
  obtain ⟨z, hz, rfl⟩ := List.mem_map.mp hx
  exact (lf_nm (h z hz)).itm
section
variable {P : Program} {w : World} {K : PySem.W.Frag} {mg : Str → Option Value} {base : Heap}
def spSn (K : PySem.W.Frag) : Sp := fun vs H Q _ => ∃ (p o : Addr) (b : Int) (m k : Nat) (ms ks : List Str) (ws : List Int) (Ms : List (List (List Int))), vs = [.ref p, .ref o] ∧ Pot (k + 400) H p ∧ BookAt H o b m ms ws ks Ms ∧ BkOk b m ms ws ks Ms ∧
  ∀ (L : Addr) (xs : List V) (H' : Hp), Dr p k H H' → H' L = some (.lst xs) → L ≠ p → H L = none → xs.length ≤ 60 → (∀ x ∈ xs, Val K p H' x) → Q (.ref L) H'
theorem ok_l_some_names (T : Txt K mg) : FnOk P w K mg base CX0 6 T.f_l_some_names T.fd_l_some_names ["pot", "own"] (spSn K) := by
  refine T.F_l_some_names.ok sc_l_some_names (fun vs H Q E h => ?_) (fun cdv A outer s H vs Q E hr h => ?_)
  · obtain ⟨p, o, _, _, _, _, _, _, _, rfl, _⟩ := h
    rfl
  · obtain ⟨p, o, b, m, k, ms, ks, ws, Ms, rfl, hP, hB, ok, q⟩ := h
    refine ⟨_, (pss_cons (ps_par (i := 2) (j := 3) (by rfl) sc_l_some_names.nd rfl rfl (by decide) rfl rfl (pa_cons (pe_dget (hu_of hr) (pv 1) pe_str (fun _ _ => rfl)) (pa_cons (pe_callB call_len_seq (by rfl) T.n_len PySem.boot_len (pa_cons (pe_dget (hu_of hr) (pv 1) pe_str (fun _ _ => rfl)) pa_nil)) pa_nil)) (by rfl))
  (pss_cons (ps_set (i := 4) sc_l_some_names.nd rfl (Or.inr rfl) (pe_call (ok_l_book_names T) (hr.mono (by decide)) (by rfl) T.g_l_book_names T.F_l_book_names.kp T.b_l_book_names .nil pass0 (pa_cons (pv 0) (pa_cons (pv 3) pa_nil))))
  (pss_cons (ps_set (i := 5) sc_l_some_names.nd rfl (Or.inl rfl) (pe_lst (pa_cons (pv 4) (pa_cons (pv 2) (pa_cons (OGX.pe_revT (pv 2)) (pa_cons (pe_op op_catA (pe_slice sl_tupA (pv 4) (po_some pe_int) po_none) (pe_slice sl_tupA (pv 2) po_none (po_some pe_int))) (pa_cons (pe_callTy call_list_of (by rfl) T.n_list (by decide +kernel) (pa_cons (pv 4) pa_nil)) (pa_cons (pe_op op_catA (pv 4) (pe_slice sl_tupA (pv 4) po_none (po_some pe_int))) (pa_cons (pe_slice sl_tupA (pv 4) (po_some pe_int) po_none) (pa_cons (pe_tup pa_nil) (pa_cons pe_non pa_nil)))))))))))
  (pss_cons (ps_set (i := 6) sc_l_some_names.nd rfl (Or.inl rfl) (pe_call (ok_l_take T) (hr.mono (by decide)) (by rfl) T.g_l_take T.F_l_take.kp T.b_l_take .nil pass0 (pa_cons (pv 0) (pa_cons (pv 3) pa_nil))))
  (pss_cons (ps_for PassesOwn.never rfl (pi_list (pe_lst (pa_cons pe_str (pa_cons pe_str (pa_cons pe_str (pa_cons pe_str (pa_cons pe_str (pa_cons pe_str (pa_cons pe_int (pa_cons pe_non (pa_cons (pe_ix ix_tup (pv 4) pe_int (fun _ _ => rfl)) (pa_cons (pe_tup (pa_cons (pe_ix ix_tup (pv 4) pe_int (fun _ _ => rfl)) pa_nil)) (pa_cons pe_str (pa_cons pe_str pa_nil)))))))))))))) (pg_name (i := 7) sc_l_some_names.nd rfl (Or.inl rfl)) (pss_one (ps_expr (pe_bm PySem.F.plainAttrs_list PySem.F.slot_list_append PySem.F.type_list_append mt_append (pv 5) (pa_cons (pe_op op_catA (pe_op op_catA (pe_slice sl_tupA (pv 4) po_none (po_some (pv 6))) (pe_tup (pa_cons (pv 7) pa_nil))) (pe_slice sl_tupA (pv 4) (po_some (pe_op op_add (pv 6) pe_int)) po_none)) pa_nil)))))
  (pss_one (ps_ret (pe_op op_cat (pe_op op_cat (pv 5) (pe_lc (own := [("lap", 8)]) (g := gName 8) (by rfl) sc_l_some_names.nd (pi_range1 (by rfl) T.n_range (pa_cons pe_int pa_nil)) (blkOk_by (own := [("lap", 8)]) (by rfl)) (fun _ _ _ _ _ => (pg_name (i := 8) sc_l_some_names.nd rfl (Or.inl rfl))) (fun _ _ _ _ _ => pts_nil) (fun _ _ _ _ _ => (pe_call (ok_l_bent T) (hr.mono (by decide)) (by rfl) T.g_l_bent T.F_l_bent.kp T.b_l_bent .nil pass0 (pa_cons (pv 0) (pa_cons (pv 4) pa_nil)))))) (pe_lst (pa_cons (pe_call (ok_l_odd T) (hr.mono (by decide)) (by rfl) T.g_l_odd T.F_l_odd.kp T.b_l_odd .nil pass0 (pa_cons (pv 0) pa_nil)) pa_nil)))))))))), ?_⟩
    have wide : ∀ {n : Nat}, n ≤ 1000 → n ≤ sizeLine := fun h => Nat.le_trans h (by decide)
    have hml := ok.nm.len
    have hm4 := ok.m4
    have hm1 := ok.m1
    obtain ⟨kvs, tm, tw, tk, td, hO, hl10, v1, v2, hT2, _⟩ := id hB
    refine ⟨.ref o, rfl, o, _, rfl, dget hO v2, .ref o, rfl, o, _, rfl, dget hO v2, tm, _, rfl, .inr (SqT.of hT2), _, _, rfl, ?_⟩
    rw [List.length_map, hml]
    refine ⟨.ref p, rfl, .int (m : Int), rfl, ?_⟩
    refine ⟨p, m, k + 300, rfl, hP, by omega, fun nt ns H1 hns d1 fn1 n1p g1 => ?_⟩
    have hT21 := d1.st (hP.neT hT2) hT2
    have tmp : tm ≠ p := hP.neT hT2
    have hnl := hns.len
    have lns : (ns.map V.str).length = m := by rw [List.length_map, hnl]
    have lms : (ms.map V.str).length = m := by rw [List.length_map, hml]
    obtain ⟨pots, hpots⟩ := d1.2.lst
    refine ⟨.ref nt, rfl, .ref tm, rfl, .ref tm, rfl, tm, _, rfl, SqT.of hT21, fun b1 hb1 => ?_⟩
    have s2 := same_new (o := .tup (ms.map V.str).reverse) hb1
    have f1 : (upd H1 b1 (.tup (ms.map V.str).reverse)) b1 = some (.tup (ms.map V.str).reverse) := upd_same
    have q1 := fresh_ne ⟨_, hpots⟩ hb1
    generalize upd H1 b1 (.tup (ms.map V.str).reverse) = H2 at *
    refine ⟨.ref nt, rfl, 1, rfl, ?_⟩
    dsimp only [tNoPart]
    refine slice_any (p := p) ⟨_, s2 _ _ hpots⟩ (s2 _ _ g1) n1p fun c1 H3 s3 qc1 _ fc1 => ?_
    have s13 := s2.trans s3
    refine ⟨.ref tm, rfl, 1, rfl, slice_any (p := p) ⟨_, s13 _ _ hpots⟩ (s13 _ _ hT21) tmp fun c2 H4 s4 qc2 _ fc2 => ?_⟩
    have s14 := s13.trans s4
    have cl1 := cutV_length (ns.map V.str) (some 1) none
    have cl2 := cutV_length (ms.map V.str) none (some 1)
    have cl3 := cutV_length (ns.map V.str) none (some 1)
    refine cat_any (p := p) ⟨_, s14 _ _ hpots⟩ (s4 _ _ fc1) fc2 qc1 qc2 (wide (by omega)) fun b2 H5 s5 q2 _ f2 => ?_
    have s15 := s14.trans s5
    refine ⟨.ref nt, rfl, nt, _, rfl, .inr (SqT.of (s15 _ _ g1)), fun b3 hb3 => ?_⟩
    have s6 := same_new (o := .lst (ns.map V.str)) hb3
    have f3 : (upd H5 b3 (.lst (ns.map V.str))) b3 = some (.lst (ns.map V.str)) := upd_same
    have q3 := fresh_ne ⟨_, s15 _ _ hpots⟩ hb3
    generalize upd H5 b3 (.lst (ns.map V.str)) = H6 at *
    have s16 := s15.trans s6
    refine ⟨.ref nt, rfl, .ref nt, rfl, 1, rfl, slice_any (p := p) ⟨_, s16 _ _ hpots⟩ (s16 _ _ g1) n1p fun c3 H7 s7 qc3 _ fc3 => ?_⟩
    have s17 := s16.trans s7
    refine cat_any (p := p) ⟨_, s17 _ _ hpots⟩ (s17 _ _ g1) fc3 n1p qc3 (wide (by omega)) fun b4 H8 s8 q4 _ f4 => ?_
    have s18 := s17.trans s8
    refine ⟨.ref nt, rfl, 1, rfl, ?_⟩
    dsimp only [tNoPart]
    refine slice_any (p := p) ⟨_, s18 _ _ hpots⟩ (s18 _ _ g1) n1p fun b5 H9 s9 q5 _ f5 => ?_
    have s19 := s18.trans s9
    refine ⟨Nat.zero_le _, fun b6 hb6 => ⟨wide (show 9 ≤ 1000 by decide), fun F hF => ?_⟩⟩
    have s10 := same_new (o := .tup []) hb6
    have f6 : (upd H9 b6 (.tup [])) b6 = some (.tup []) := upd_same
    have q6 := fresh_ne ⟨_, s19 _ _ hpots⟩ hb6
    generalize upd H9 b6 (.tup []) = H10 at *
    have s110 := s19.trans s10
    have qF := fresh_ne ⟨_, s110 _ _ hpots⟩ hF
    have IN : ∀ {HH : Hp}, ∀ x ∈ ns.map V.str, Itm K p HH x := itm_nms hns.is
    have IM : ∀ {HH : Hp}, ∀ x ∈ ms.map V.str, Itm K p HH x := itm_nms ok.nm.is
    obtain ⟨xs0, hx0⟩ : ∃ xs0 : List V, xs0 = [.ref nt, .ref tm, .ref b1, .ref b2, .ref b3, .ref b4, .ref b5, .ref b6, .non] := ⟨_, rfl⟩
    have lx0 : xs0.length = 9 := by
      rw [hx0]
      rfl
    have v0 : ∀ x ∈ xs0, Val K p H10 x := by
      rw [hx0]
      intro x hx
      simp only [List.mem_cons, List.mem_nil_iff, or_false] at hx
      rcases hx with rfl | rfl | rfl | rfl | rfl | rfl | rfl | rfl | rfl
      · exact val_tup (s110 _ _ g1) n1p IN (by omega)
      · exact val_tup (s110 _ _ hT21) tmp IM (by omega)
      · exact val_tup ((((((((s3.trans s4).trans s5).trans s6).trans s7).trans s8).trans s9).trans s10) _ _ f1) q1 (fun x hx => IM x (List.mem_reverse.mp hx)) (by rw [List.length_reverse]; omega)
      · refine val_tup (((((s6.trans s7).trans s8).trans s9).trans s10) _ _ f2) q2 (fun x hx => ?_) (by rw [List.length_append]; omega)
        exact (List.mem_append.mp hx).elim (fun h => IN x (cut_mem h)) fun h => IM x (cut_mem h)
      · exact val_lst ((((s7.trans s8).trans s9).trans s10) _ _ f3) q3 IN (by omega)
      · refine val_tup ((s9.trans s10) _ _ f4) q4 (fun x hx => ?_) (by rw [List.length_append]; omega)
        exact (List.mem_append.mp hx).elim (IN x) fun h => IN x (cut_mem h)
      · exact val_tup (s10 _ _ f5) q5 (fun x hx => IN x (cut_mem hx)) (by omega)
      · exact val_tup f6 q6 (fun x hx => by cases hx) (by decide)
      · exact lf_non.val fun a h => by cases h
    rw [← hx0]
    have s11 := same_new (o := .lst xs0) hF
    have gF : (upd H10 F (.lst xs0)) F = some (.lst xs0) := upd_same
    have v1 : ∀ x ∈ xs0, Val K p (Hm F (upd H10 F (.lst xs0))) x := fun x hx => (v0 x hx).same (Hm.new hF)
    have s111 := s110.trans s11
    have fnF : H F = none := by
      cases e : H F with
      | none => rfl
      | some o0 =>
        have := s110 _ _ (d1.1 _ _ qF e)
        rw [hF] at this
        cases this
    have ntF : nt ≠ F := fun z => by
      have := s110 _ _ g1
      rw [z, hF] at this
      cases this
    generalize upd H10 F (.lst xs0) = H11 at *
    have d11 := d1.sm s111
    refine ⟨.ref p, rfl, .int (m : Int), rfl, p, (m : Int), k + 299, rfl, d11.2, by omega, by omega, fun at0 H12 a0 a1 d12 => ?_⟩
    obtain ⟨i, rfl⟩ : ∃ i : Nat, at0 = (i : Int) := ⟨at0.toNat, by omega⟩
    have gF12 := d12.st qF gF
    have g112 := d12.st n1p (s111 _ _ g1)
    have v12 : ∀ x ∈ xs0, Val K p (Hm F H12) x := fun x hx => (v1 x hx).dr (by
      obtain ⟨xs, h⟩ := d11.2.lst
      exact ⟨xs, by rw [Hm.ne qF.symm]; exact h⟩) (d12.hm qF)
    have d012 := d11.trans d12
    obtain ⟨n0, hn0⟩ : ∃ n0, ns[0]? = some n0 := ⟨ns[0]'(by omega), List.getElem?_eq_getElem (by omega)⟩
    have isn0 := hns.is n0 (List.mem_of_getElem? hn0)
    have at00 : atI (ns.map V.str) 0 = some (.str n0) := atI_nat (j := 0) (by rw [List.getElem?_map, hn0]; rfl)
    obtain ⟨pot12, hp12⟩ := d012.2.lst
    refine ⟨.ref nt, rfl, nt, _, 0, .str n0, rfl, rfl, SqT.of g112, at00, .ref nt, rfl, nt, _, 0, .str n0, rfl, rfl, SqT.of g112, at00, wide (show 1 ≤ 1000 by decide), fun z1 hz1 => ⟨wide (show 12 ≤ 1000 by decide), fun G hG => ?_⟩⟩
    obtain ⟨os, hos⟩ : ∃ os : List V, os = [.str "abcde", .str "", .str "A", .str "a1", .str "zzzz", .str "q", .int 1, .non, .str n0, .ref z1, .str "a b", .str "mark"] := ⟨_, rfl⟩
    have los : os.length = 12 := by
      rw [hos]
      rfl
    have s13 := same_new (o := .tup [.str n0]) hz1
    have fz : (upd H12 z1 (.tup [.str n0])) z1 = some (.tup [.str n0]) := upd_same
    have qz := fresh_ne ⟨_, hp12⟩ hz1
    have zF : z1 ≠ F := fun z => by
      rw [z, gF12] at hz1
      cases hz1
    generalize upd H12 z1 (.tup [.str n0]) = H13 at *
    rw [← hos]
    have s14 := same_new (o := .lst os) hG
    have gG : (upd H13 G (.lst os)) G = some (.lst os) := upd_same
    have GF : G ≠ F := fun z => by
      rw [z, s13 _ _ gF12] at hG
      cases hG
    generalize upd H13 G (.lst os) = H14 at *
    have s1214 := s13.trans s14
    have itm : ∀ {HH : Hp}, HH z1 = some (.tup [.str n0]) → ∀ x ∈ os, Itm K p HH x := by
      rw [hos]
      intro HH e x hx
      simp only [List.mem_cons, List.mem_nil_iff, or_false] at hx
      rcases hx with rfl | rfl | rfl | rfl | rfl | rfl | rfl | rfl | rfl | rfl | rfl | rfl
      · exact (lfs _ (by decide +kernel)).itm
      · exact (lfs _ (by decide +kernel)).itm
      · exact (lfs _ (by decide +kernel)).itm
      · exact (lfs _ (by decide +kernel)).itm
      · exact (lfs _ (by decide +kernel)).itm
      · exact (lfs _ (by decide +kernel)).itm
      · exact (lfi _ (by decide +kernel)).itm
      · exact lf_non.itm
      · exact (lf_nm isn0).itm
      · exact itm_tup e qz (.cons (lf_nm isn0) .nil) (by show 1 ≤ 20; decide)
      · exact (lfs _ (by decide +kernel)).itm
      · exact (lfs _ (by decide +kernel)).itm
    have far14 : ∀ {b o}, b ≠ F → H14 b = some o → (Hm F H14) b = some o := fun n e => by rw [Hm.ne n]; exact e
    refine ⟨G, rfl, ⟨_, SqL.of gG⟩, ?_⟩
    refine for_list (K := K) (a := G) (xs := os) (fun j σ H' => ∃ u7 : Option V, σ = [some (.ref p), some (.ref o), some (.ref tm), some (.int (m : Int)), some (.ref nt), some (.ref F), some (.int (i : Int)), u7, none] ∧ Same (Hm F H14) (Hm F H') ∧
        ∃ xs, H' F = some (.lst xs) ∧ xs.length = 9 + j ∧ ∀ x ∈ xs, Val K p (Hm F H') x)
      ⟨_, rfl, Same.refl _, xs0, s1214 _ _ gF12, by omega, fun x hx => (v12 x hx).same (Hm.mono s1214)⟩ (fun j σ H' _ ⟨_, _, s, _⟩ => SqL.of (Hm.same _ _ (s _ _ (far14 GF gG)))) ?_ ?_
    · rintro j one σ H' hone ⟨u7, rfl, sS, xs, gx, lx, vx⟩
      have hj : j < 12 := by
        have := (List.getElem?_eq_some_iff.mp hone).1
        omega
      have up : ∀ {b o}, b ≠ F → H14 b = some o → H' b = some o := fun n e => Hm.same _ _ (sS _ _ (far14 n e))
      have gn := up ntF (s1214 _ _ g112)
      have hp' := up qF.symm (s1214 _ _ hp12)
      have z' := up zF (s14 _ _ fz)
      refine ⟨.ref F, rfl, .inl ⟨rfl, _, SqL.of gx⟩, ?_⟩
      refine ⟨.ref nt, rfl, .int (i : Int), rfl, (i : Int), rfl, slice_any (p := p) ⟨_, hp'⟩ gn n1p fun a1 K1 t1 qa1 w1 ga1 => ?_⟩
      have alF : ∀ {HH : Hp}, Same H' HH → HH F = some (.lst xs) := fun s => s _ _ gx
      have a1F : a1 ≠ F := w1.elim (fun e z => ntF (by rw [← z, e])) fun e z => by
        rw [z, gx] at e
        cases e
      refine ⟨one, rfl, wide (show 1 ≤ 1000 by decide), fun a2 ha2 => ?_⟩
      have t2 := same_new (o := .tup [one]) ha2
      have ga2 : (upd K1 a2 (.tup [one])) a2 = some (.tup [one]) := upd_same
      have qa2 := fresh_ne ⟨_, t1 _ _ hp'⟩ ha2
      have a2F : a2 ≠ F := fun z => by
        rw [z, t1 _ _ gx] at ha2
        cases ha2
      generalize upd K1 a2 (.tup [one]) = K2 at *
      have t12 := t1.trans t2
      have l1 := cutV_length (ns.map V.str) none (some (i : Int))
      have l2 := cutV_length (ns.map V.str) (some ((i : Int) + 1)) none
      refine cat_any (p := p) ⟨_, t12 _ _ hp'⟩ (t2 _ _ ga1) ga2 qa1 qa2 (wide (by show _ + 1 ≤ 1000; omega)) fun a3 K3 t3 qa3 w3 ga3 => ?_
      have t13 := t12.trans t3
      have a3F : a3 ≠ F := w3.elim (fun e z => a1F (by rw [← e, z])) fun w => w.elim (fun e z => a2F (by rw [← e, z])) fun e z => by
        rw [z, t12 _ _ gx] at e
        cases e
      refine ⟨.ref nt, rfl, .int (i : Int), rfl, _, _, rfl, rfl, _, rfl, ?_⟩
      dsimp only [tNoPart]
      refine slice_any (p := p) ⟨_, t13 _ _ hp'⟩ (t13 _ _ gn) n1p fun a4 K4 t4 qa4 w4 ga4 => ?_
      have t14 := t13.trans t4
      have a4F : a4 ≠ F := w4.elim (fun e z => ntF (by rw [← z, e])) fun e z => by
        rw [z, t13 _ _ gx] at e
        cases e
      refine cat_any (p := p) ⟨_, t14 _ _ hp'⟩ (t4 _ _ ga3) ga4 qa3 qa4 (wide (by rw [List.length_append]; show _ + 1 + _ ≤ 1000; omega)) fun a5 K5 t5 qa5 w5 ga5 => ?_
      have t15 := t14.trans t5
      have a5F : a5 ≠ F := w5.elim (fun e z => a3F (by rw [← e, z])) fun w => w.elim (fun e z => a4F (by rw [← e, z])) fun e z => by
        rw [z, t14 _ _ gx] at e
        cases e
      refine ⟨F, xs, .ref a5, rfl, rfl, t15 _ _ gx, small1000' (by omega), ?_⟩
      refine ⟨_, rfl, ?_, xs ++ [.ref a5], upd_same, by rw [List.length_append, lx]; rfl, fun x hx => ?_⟩
      · rw [Hm.updE]
        exact sS.trans (Hm.mono t15)
      · rw [Hm.updE]
        rcases List.mem_append.mp hx with hx | hx
        · exact (vx x hx).same (Hm.mono t15)
        · rw [List.mem_singleton.mp hx]
          refine val_tup (by rw [Hm.ne a5F]; exact ga5) qa5 (fun x hx => ?_) (by rw [List.length_append, List.length_append]; show _ + 1 + _ ≤ 20; omega)
          rcases List.mem_append.mp hx with hx | hx
          · rcases List.mem_append.mp hx with hx | hx
            · exact IN x (cut_mem hx)
            · rw [List.mem_singleton.mp hx]
              exact itm (by rw [Hm.ne zF]; exact t15 _ _ z') one (List.mem_of_getElem? hone)
          · exact IN x (cut_mem hx)
    · rintro σ H' ⟨u7, rfl, sS, xs, gx, lx, vx⟩
      rw [los] at lx
      have up : ∀ {b o}, b ≠ F → H14 b = some o → H' b = some o := fun n e => Hm.same _ _ (sS _ _ (far14 n e))
      have gn := up ntF (s1214 _ _ g112)
      have kH : Kp p H H' := fun b o nb e => by
        have nf : b ≠ F := ne_of_none e fnF
        exact up nf (s1214 _ _ (d012.1 _ _ nb e))
      have pot' : Pot (k + 299) H' p := by
        obtain ⟨x, y, c, h1, h2⟩ := d012.2
        exact ⟨x, y, c, up qF.symm (s1214 _ _ h1), h2⟩
      obtain ⟨potx, hpx⟩ := pot'.lst
      refine ⟨.ref F, rfl, 4, rfl, by decide, by decide, fun D hD => ?_⟩
      have qD := fresh_ne ⟨_, hpx⟩ hD
      have nDt : D ≠ nt := fun z => by
        rw [z, gn] at hD
        cases hD
      have FD : F ≠ D := fun z => by
        rw [← z, gx] at hD
        cases hD
      refine lc_range (lo := 0) (n := 4) (fun i H1 => Dr p (k + 250 - 25 * i) H' H1 ∧ ∃ vs, H1 D = some (.lst vs) ∧ vs.length = i ∧ ∀ x ∈ vs, Val K p (Hm D H1) x) ⟨(Dr.start pot' (by omega)).new hD, [], upd_same, rfl, fun x hx => by cases hx⟩ ?_ ?_
      · rintro i H1 hi ⟨d, vs, gD, lv, hv⟩
        refine ⟨rfl, ?_⟩
        refine ⟨.ref p, rfl, .ref nt, rfl, p, nt, ns, k + 250 - 25 * (i + 1), rfl, d.st n1p gn, hns.is, by omega, by omega, d.2.mono (by omega), fun v H2 d2 vD _ => ?_⟩
        have gD2 := d2.st qD gD
        refine ⟨vs, gD2, small1000' (by omega), (d.trans d2).mut hD qD, vs ++ [v], upd_same, by rw [List.length_append, lv]; rfl, fun x hx => ?_⟩
        rw [Hm.updE]
        rcases List.mem_append.mp hx with hx | hx
        · refine (hv x hx).dr ?_ (d2.hm qD)
          obtain ⟨ys, h⟩ := d.2.lst
          exact ⟨ys, by rw [Hm.ne qD.symm]; exact h⟩
        · rw [List.mem_singleton.mp hx]
          exact vD D qD nDt ⟨_, gD⟩
      · rintro H1 ⟨d, vs, gD, lv, hv⟩
        have gF1 := d.st qF gx
        have vF : ∀ x ∈ xs, Val K p H1 x := fun x hx => by
          refine Val.same ((vx x hx).dr ?_ (d.hm qF)) Hm.same
          exact ⟨_, by rw [Hm.ne qF.symm]; exact hpx⟩
        have vB : ∀ x ∈ vs, Val K p H1 x := fun x hx => (hv x hx).same Hm.same
        refine ⟨F, D, xs, vs, rfl, rfl, gF1, gD, wide (by omega), fun L1 hL1 => ?_⟩
        obtain ⟨ys, hys⟩ : ∃ ys, ys = xs ++ vs := ⟨_, rfl⟩
        have vY : ∀ x ∈ ys, Val K p H1 x := fun x hx => by
          rw [hys] at hx
          exact (List.mem_append.mp hx).elim (vF x) (vB x)
        have ly : ys.length = 25 := by rw [hys, List.length_append, lx, lv]
        rw [← hys]
        have e1 := same_new (o := .lst ys) hL1
        have gL1 : (upd H1 L1 (.lst ys)) L1 = some (.lst ys) := upd_same
        have qL1 := fresh_ne ⟨_, d.2.lst.choose_spec⟩ hL1
        have dL : Dr p (k + 150) H (upd H1 L1 (.lst ys)) := ⟨(kH.trans d.1).trans (Same.kp e1), (d.2.same e1).mono (by omega)⟩
        have vY1 : ∀ x ∈ ys, Val K p (upd H1 L1 (.lst ys)) x := fun x hx => (vY x hx).same e1
        generalize upd H1 L1 (.lst ys) = H2 at *
        refine ⟨.ref p, rfl, p, k + 149, rfl, dL.2, fun v H3 d3 hv3 => ⟨wide (show 1 ≤ 1000 by decide), fun L2 hL2 => ?_⟩⟩
        have e2 := same_new (o := .lst [v]) hL2
        have gL2 : (upd H3 L2 (.lst [v])) L2 = some (.lst [v]) := upd_same
        have gL13 := e2 _ _ (d3.st qL1 gL1)
        have vY3 : ∀ x ∈ ys ++ [v], Val K p (upd H3 L2 (.lst [v])) x := fun x hx => by
          refine Val.same ?_ e2
          rcases List.mem_append.mp hx with hx | hx
          · exact (vY1 x hx).dr dL.2.lst d3
          · rw [List.mem_singleton.mp hx]
            exact hv3
        have d4 := (dL.trans d3).sm e2
        generalize upd H3 L2 (.lst [v]) = H4 at *
        refine ⟨L1, L2, ys, [v], rfl, rfl, gL13, gL2, wide (by show _ + 1 ≤ 1000; omega), fun L3 hL3 => ?_⟩
        have e3 := same_new (o := .lst (ys ++ [v])) hL3
        exact q L3 (ys ++ [v]) _ ((d4.sm e3).mono (by omega)) upd_same (fresh_ne ⟨_, d4.2.lst.choose_spec⟩ hL3) (d4.fr hL3) (by rw [List.length_append, ly]; show 25 + 1 ≤ 60; decide) fun x hx => (vY3 x hx).same e3
end
end OG
set_option Elab.async false
set_option linter.all false
set_option maxRecDepth 100000
set_option maxHeartbeats 4000000
namespace OGX
open PySem PySem.Spec PyProof.Rows L2
/-- how many unlike texts are among the first i -/
def unl (xs : List Str) : Nat → Nat
  | 0 => 0
  | i + 1 => if (xs.take i).any (· == xs.getD i Str.empty) then unl xs i else unl xs i + 1
theorem unl_le (xs : List Str) : ∀ i, unl xs i ≤ i
  | 0 => Nat.le_refl _
  | i + 1 => by
    have := unl_le xs i
    unfold unl
    split <;> omega
theorem unl_nd (xs : List Str) : ∀ i, i ≤ xs.length → unl xs i = i → (xs.take i).Nodup
  | 0, _, _ => by simp
  | i + 1, hi, h => by
    have le := unl_le xs i
    unfold unl at h
    split at h
    · omega
    · rename_i c
      have nd := unl_nd xs i (by omega) (by omega)
      have e : xs[i]? = some (xs.getD i Str.empty) := by
        rw [List.getD_eq_getElem?_getD, List.getElem?_eq_getElem (by omega)]
        rfl
      rw [List.take_add_one, e]
      refine List.nodup_append.mpr ⟨nd, by simp, fun x hx y hy z => c ?_⟩
      rw [List.mem_singleton.mp (show y ∈ [xs.getD i Str.empty] from hy)] at z
      exact List.any_eq_true.mpr ⟨x, hx, by rw [z]; simp⟩
theorem nd_unl (xs : List Str) (h : xs.Nodup) : ∀ i, i ≤ xs.length → unl xs i = i
  | 0, _ => rfl
  | i + 1, hi => by
    have ih := nd_unl xs h i (by omega)
    unfold unl
    rw [if_neg, ih]
    intro c
    obtain ⟨x, hx, e⟩ := List.any_eq_true.mp c
    have e : x = xs.getD i Str.empty := by simpa using e
    have ei : xs.getD i Str.empty = xs[i]'(by omega) := by
      rw [List.getD_eq_getElem?_getD, List.getElem?_eq_getElem (by omega)]
      rfl
    obtain ⟨j, hj⟩ := List.getElem?_of_mem hx
    obtain ⟨hjl, hj⟩ := List.getElem?_eq_some_iff.mp hj
    rw [List.length_take] at hjl
    rw [List.getElem_take, e, ei] at hj
    have := (List.getElem_inj h).mp hj
    omega
section
variable {P : Program} {w : World} {A : Around} {R : Result → Shared → Prop} {I : Addr} {fp wr : List Addr} {G : Array GenState → Array GenState → Prop} {n : Nat} {Pv : Nat → Value → Prop} {St : Nat → Shared → Prop}
theorem set_fill (W : WalksS P w A.in1 I fp wr G n Pv St) (S : Addr) (nS : S ∉ fp) (xs : List Str) (hl : xs.length = n) (hn : n ≤ 20) (hv : ∀ i v, Pv i v → ∃ t, v = .str (xs.getD i Str.empty) t) :
    ∀ (d i : Nat) (s : Shared), i + d = n → St i s → s.heap.SetOf (PySem.strKind P w) S (fun k => (xs.take i).any (· == k)) (unl xs i) →
      (∀ s', Moved (S :: wr) G s s' → s'.heap.SetOf (PySem.strKind P w) S (fun k => (xs.take n).any (· == k)) (unl xs n) → R (.ok (.ret .none)) s') →
      codeAny (model P w) A (.builtin "set.update.loop" ⟨[.ref S, .ref I], []⟩) R s := by
  have nW : S ∉ wr := fun h => nS (W.sub _ h)
  have more : ∀ b ∈ wr, b ∈ S :: wr := fun b hb => List.mem_cons_of_mem _ hb
  have carry : ∀ {s s' : Shared} {i : Nat}, Moved wr G s s' → s.heap.SetOf (PySem.strKind P w) S (fun k => (xs.take i).any (· == k)) (unl xs i) → s'.heap.SetOf (PySem.strKind P w) S (fun k => (xs.take i).any (· == k)) (unl xs i) := fun hm ⟨o, es, ep, t, ho, rest⟩ => ⟨o, es, ep, t, hm.heap S _ nW ho, rest⟩
  intro d
  induction d with
  | zero =>
    intro i s hd st hS q
    have hi : i = n := hd
    subst hi
    refine codeAny_builtin PyProof.Rows.F.entry_set_update_loop ?_
    rw [Around.under_plainId PyProof.Rows.F.plain_set_update_loop _]
    change wpAny _ A.in1 (pyNext (.ref I) >>= _) _ _ s
    refine wpAny_bind (W.done s _ _ st fun s' hm => ?_)
    change wpAny _ A.in1 (ret Value.none) _ _ s'
    exact wpAny_pure (q s' (hm.mono more) (carry hm hS))
  | succ d ih =>
    intro i s hd st hS q
    have hlt : i < n := by omega
    refine codeAny_builtin PyProof.Rows.F.entry_set_update_loop ?_
    rw [Around.under_plainId PyProof.Rows.F.plain_set_update_loop _]
    change wpAny _ A.in1 (pyNext (.ref I) >>= _) _ _ s
    refine wpAny_bind (W.item i s _ _ hlt st fun v s' hp st' hm => ?_)
    obtain ⟨t, rfl⟩ := hv i v hp
    have hS1 := carry hm hS
    have few : unl xs i + 1 < scanBound := by
      have := unl_le xs i
      unfold scanBound
      omega
    change wpAny _ A.in1 (holding [Value.str (xs.getD i Str.empty) t] (setAdd S (.str (xs.getD i Str.empty) t)) >>= _) _ _ s'
    refine wpAny_bind (wpAny_holding ?_)
    unfold setAdd
    refine wpAny_holding ?_
    refine wpAny_bind ((PySem.strKind P w).pyHash (k := xs.getD i Str.empty) (strKind_is _ _ _ _) ?_)
    refine wpAny_setAddHashed_of (knd := PySem.strKind P w) (s := { s' with toks := s'.toks + 1 }) (strKind_is _ _ _ _) rfl hS1 few fun h' sb hS2 => ?_
    have ex : xs[i]? = some (xs.getD i Str.empty) := by
      rw [List.getD_eq_getElem?_getD, List.getElem?_eq_getElem (by omega)]
      rfl
    have hS3 : h'.SetOf (PySem.strKind P w) S (fun k => (xs.take (i + 1)).any (· == k)) (unl xs (i + 1)) := by
      refine SetOf_congr hS2 (fun k => ?_) rfl
      rw [List.take_add_one, ex, List.any_append]
      congr 1
      show decide (k = xs.getD i Str.empty) = ([xs.getD i Str.empty].any (· == k))
      by_cases e : k = xs.getD i Str.empty
      · rw [decide_eq_true e, ← e]
        simp
      · rw [decide_eq_false e]
        have : (xs.getD i Str.empty == k) = false := by simpa using fun z => e z.symm
        rw [List.any_cons, List.any_nil, this]
        rfl
    refine wpAny_pure ⟨plainId_quiet PyProof.Rows.F.plain_set_update_loop _, ih (i + 1) _ (by omega) (W.frame _ s' _ _ st' (Nat.le_succ _) fun b hb o e => ?_) hS3 fun s2 hm2 hS4 => ?_⟩
    · rw [sb.2 b (fun h : b = S => nS (by rw [← h]; exact hb))]
      exact e
    · refine q s2 (Moved.trans W.gtrans ((hm.mono more).then_heap (Nat.le_succ _) fun b o hb e => ?_) hm2) hS4
      rw [sb.2 b (fun h : b = S => hb (by rw [h]; exact List.mem_cons_self))]
      exact e
end
section
variable {P : Program} {w : World} {A : Around} {E : Value → Shared → Prop} {s : Shared}
def newSet (led : Bool) : Obj := { cls := .type "set", dict := none, data := .set #[] 0 (.fresh 0 0 led) }
set_option maxHeartbeats 6400000 in
/-- set(t), t a tuple of few texts -/
theorem set_of_texts {l : Addr} {items : Array Value} {xs : List Str} {Q : Value → Shared → Prop} (hh : A.handled = none) (hl : s.heap.IsTuple l items) (hi : PyProof.Rows.StrsAre items.toList xs) (hn : xs.length ≤ 20)
    (q : ∀ (h' : Heap) (tk : Nat), h'.SetOf (PySem.strKind P w) s.heap.objs.size (fun k => (xs.take xs.length).any (· == k)) (unl xs xs.length) → (∀ b o, b < s.heap.objs.size → s.heap.get? b = some o → h'.get? b = some o) → Q (.ref s.heap.objs.size) { s with heap := h', toks := tk }) :
    wpAny (model P w) A (call (.type "set") [.ref l]) Q E s := by
  obtain ⟨c, tl, hmro⟩ := PySem.F.called_set.mro
  have made := PySem.F.called_set.made
  have sub := PySem.F.called_set.sub
  refine wpAny_call (codeAny_of_tree ?_)
  change wpAny _ _ (callAny (.type "set") _) _ _ _
  refine wpAny_pure ⟨Code.quiet_builtin _ (by decide +kernel), codeAny_builtin PySem.F.entry_type_call ?_⟩
  rw [Around.under_plain (weight_type_call_type "set" [.ref l] []) rfl]
  have r1 := PySem.F.called_set.notType
  have r2 := PySem.F.called_set.canCreate
  have r3 := PySem.F.typeCall_set_1 (.ref l)
  repeat (any_goals (first | assumption | wp_step))
  refine codeAny_mono (code_set_new_1 (.ref l) (E := E) (Q₁ := fun obj s₁ => ∃ led : Bool, obj = .ref s.heap.objs.size ∧ s₁ = { s with heap := s.heap.push (newSet led) }) fun led => ⟨led, rfl, rfl⟩) fun r s₁ hr => ?_
  rcases r with _ | fl
  · exact hr
  rcases fl with _ | _ | _ | obj
  · exact hr.elim
  · exact hr.elim
  · exact hr.elim
  obtain ⟨led, rfl, rfl⟩ := hr
  have gS : (s.heap.push (newSet led)).get? s.heap.objs.size = some (newSet led) := Heap.get?_push_size _ rfl
  have tS : Shared.TypeIs { s with heap := s.heap.push (newSet led) } (.ref s.heap.objs.size) "set" := ⟨_, gS, rfl⟩
  have look := PySem.F.called_set.init.lookup
  have bind := PySem.F.called_set.init.bind (.ref s.heap.objs.size)
  repeat (any_goals (first | assumption | wp_step))
  refine codeAny_mono (codeAny_call_builtin (R := wants (fun r s₂ => r = .none ∧ ∃ h' tk, s₂ = { s with heap := h', toks := tk } ∧ h'.SetOf (PySem.strKind P w) s.heap.objs.size (fun k => (xs.take xs.length).any (· == k)) (unl xs xs.length) ∧
      (∀ b o, b < s.heap.objs.size → s.heap.get? b = some o → h'.get? b = some o)) E) PySem.F.called_set.init.plain PySem.F.entry_set_init (check_set_init_1 tS ?_)) fun r₂ s₂ hr₂ => ?_
  · obtain ⟨⟨cl, od, dt, sl⟩, go, hc, nl, hd⟩ := hl
    simp only at hc hd
    subst hc hd
    have lt : l < s.heap.objs.size := Heap.lt_size go
    have go' : (s.heap.push (newSet led)).get? l = some { cls := .type "tuple", dict := od, data := .seq items nl, slots := sl } := Heap.get?_push_of_some _ go
    have n1 := PySem.F.sub_tuple_set
    have n2 := PySem.F.sub_tuple_frozenset
    have n3 : (Value.type "tuple" == Value.type "dict") = false := by decide
    have tl1 : (s.heap.push (newSet led)).IsTuple l items := ⟨_, go', rfl, nl, rfl⟩
    unfold Builtin.«set.__init__» noKeywords Builtin.Frozenset.updateFrom
    generalize hPI : pyIter = PI
    wp_walk
    subst hPI
    refine wpAny_pyIter_tuple tl1 ?_
    refine wpAny_bind (wpAny_runValue ?_)
    have hh3 : A.in1.in1.in1.handled = none := by simp [hh]
    have size : (s.heap.push (newSet led)).objs.size = s.heap.objs.size + 1 := Heap.size_push ..
    have nI : l ≠ (s.heap.push (newSet led)).objs.size := by
      rw [size]
      exact Nat.ne_of_lt (Nat.lt_succ_of_lt lt)
    have nS : s.heap.objs.size ∉ [(s.heap.push (newSet led)).objs.size, l] := by
      rw [size]
      simp only [List.mem_cons, List.not_mem_nil, or_false, not_or]
      exact ⟨Nat.ne_of_lt (Nat.lt_succ_self _), Nat.ne_of_gt lt⟩
    have hsz : xs.length = items.size := by rw [← StrsAre.len_eq hi, Array.length_toList]
    refine set_fill ((Walks.tuple hh3 _ l nI items).toS) s.heap.objs.size nS xs hsz (by omega) (fun i v hv => SS.strs_at hi i v (by rw [Array.getElem?_toList]; exact hv)) items.size 0 _ (Nat.zero_add _) ⟨⟨_, Heap.get?_push_size _ rfl, rfl, rfl⟩, (tl1.push _)⟩ ?_ ?_
    · have g : ((s.heap.push (newSet led)).push { cls := .type "tuple_iterator", data := .fields #[.ref l, .int 0 0] }).get? s.heap.objs.size = some (newSet led) := Heap.get?_push_of_some _ gS
      exact PyProof.Rows.SetOf_congr ((PyProof.Rows.setObjOf_fresh (knd := PySem.strKind P w) led).setOf g (by unfold scanBound; omega)) (fun _ => rfl) rfl
    · intro s' hm hS
      obtain ⟨h', g', d', tk', os'⟩ := s'
      obtain rfl : g' = s.gens := hm.gens
      obtain rfl : d' = s.drawn := hm.drawn
      obtain rfl : os' = s.os := hm.os
      change wpAny _ _ _ _ _ _
      refine wpAny_pure ?_
      change wpAny _ _ (ret Value.none) _ _ _
      rw [← hsz] at hS
      refine wpAny_pure ⟨rfl, h', tk', rfl, hS, fun b o hb e => ?_⟩
      refine hm.heap b o ?_ (Heap.get?_push_of_some _ (Heap.get?_push_of_some _ e))
      rw [size]
      simp only [List.mem_cons, List.not_mem_nil, or_false, not_or]
      exact ⟨Nat.ne_of_lt hb, Nat.ne_of_lt (Nat.lt_succ_of_lt hb)⟩
  · rcases r₂ with _ | fl
    · exact hr₂
    rcases fl with _ | _ | _ | r
    · exact hr₂.elim
    · exact hr₂.elim
    · exact hr₂.elim
    obtain ⟨rfl, h', tk, rfl, hS, kp⟩ := hr₂
    repeat (any_goals (first | assumption | wp_step))
    exact q _ _ hS kp
end
/-- len(set(t)), t a tuple of few texts -/
def tLenSetN (K : PySem.W.Frag) (ta : TE) : TE := fun σ H Q => ta σ H fun x H1 => ∃ (l : Addr) (xs : List Str), x = .ref l ∧ SqT K H1 l (xs.map V.str) ∧ xs.length ≤ 20 ∧ Q (.int (unl xs xs.length)) H1
theorem pe_lenSetN {X : Cx} {a : Expr} {ta : TE} {p p2 q pos : Pos} (hc : X.calm = true) (hg : Gl X "len") (hm : X.mg "len" = none) (hg2 : Gl X "set") (hm2 : X.mg "set" = none) (ha : PE X a ta)
    (na : starEach [a] X.env = (false, eval a X.env) :: starEach [] X.env := by rfl) : PE X (.Call (.Name "len" p) [.Call (.Name "set" p2) [a] [] q] [] pos) (tLenSetN X.K ta) := by
  constructor
  intro pins s σ H Q I h
  refine Call_ (ld_blt I hg hm PySem.boot_len ?_)
  refine PyProof.Rows.callWith_builtin1 (PyProof.Rows.args_cons ?_ rfl) rfl rfl
  refine Call_ (ld_blt I hg2 hm2 boot_set ?_)
  refine PyProof.Rows.callWith_type1 (PyProof.Rows.args_cons (thn (ha.run pins s σ H _ I h) fun v s1 hv => PyProof.Rows.args_nil ?_) na) na rfl
  obtain ⟨_, H1, I1, r1, l, xs, rfl, hq, few, q1⟩ := hv
  cases r1
  obtain ⟨its, r, pl, hz⟩ := I1.tuple hq
  refine set_of_texts (I1.ok.hd hc) pl (by simpa using strsAre_of r) few fun h' tk hS kp => ?_
  refine PyProof.Rows.args_nil ?_
  have le := unl_le xs xs.length
  obtain ⟨o, es, ep, t, ho, hex, hd, _, _, _, hf, hn⟩ := hS
  have I2 : Inv X pins σ H1 { s1 with heap := h', toks := tk } := I1.kept fun b o e => kp b o (Heap.lt_size e) e
  exact call_len_set ho hex hd hf (by rw [hn]; omega) ⟨.int (unl xs xs.length), H1, I2.tok _, ⟨_, by rw [hn]⟩, q1⟩
end OGX
set_option Elab.async false
set_option linter.all false
set_option maxRecDepth 100000
set_option maxHeartbeats 8000000
namespace OG
open PySem PySem.Spec PyProof.Rows L2
theorem call_isiK (K : PySem.W.Frag) {X : Cx} (hK : X.K = K := by rfl) : CallR X (.builtin "isinstance") (rIsi K) := hK ▸ call_isi
/-- names for so many marks -/
def Good (H : Hp) (v : V) (m : Nat) : Prop := ∃ (t : Addr) (ns : List Str), v = .ref t ∧ H t = some (.tup (ns.map V.str)) ∧ ns.length = m ∧ (∀ z ∈ ns, IsNm z) ∧ ns.Nodup
theorem near_tup {K : PySem.W.Frag} {H : Hp} : ∀ {v : V}, NearV H v → (∃ (a : Addr) (xs : List V), v = .ref a ∧ H a = some (.tup xs) ∧ ∃ t, TyX K H v t ∧ PySem.W.kitOne K t (.type "tuple") = some true) ∨ ((¬ ∃ (a : Addr) (xs : List V), v = .ref a ∧ H a = some (.tup xs)) ∧ ∃ t, TyX K H v t ∧ PySem.W.kitOne K t (.type "tuple") = some false)
  | .non, _ => .inr ⟨fun ⟨a, xs, e, _⟩ => by (cases e), _, .base .non, kit_ty (by decide +kernel)⟩
  | .bl b, _ => .inr ⟨fun ⟨a, xs, e, _⟩ => by (cases e), _, .base (.bl b), kit_ty (by decide +kernel)⟩
  | .int i, _ => .inr ⟨fun ⟨a, xs, e, _⟩ => by (cases e), _, .base (.int i), kit_ty (by decide +kernel)⟩
  | .str z, _ => .inr ⟨fun ⟨a, xs, e, _⟩ => by (cases e), _, .base (.str z), kit_ty (by decide +kernel)⟩
  | .ref a, h => by
    rcases h with ⟨xs, h⟩ | ⟨xs, h⟩ | ⟨xs, h⟩
    · refine .inr ⟨?_, _, .base (.lst h), kit_ty (by decide +kernel)⟩
      rintro ⟨b, ys, e, g⟩
      cases e
      rw [h] at g
      cases g
    · exact .inl ⟨a, xs, rfl, h, _, .base (.tup h), kit_ty (by decide +kernel)⟩
    · refine .inr ⟨?_, _, .base (.dK h), kit_ty (by decide +kernel)⟩
      rintro ⟨b, ys, e, g⟩
      cases e
      rw [h] at g
      cases g
/-- an item that is a name -/
def itB : V → Bool
  | .str z => isNmB 4 z
  | _ => false
theorem itB_str {v : V} (h : itB v = true) : ∃ z, v = .str z ∧ IsNm z := by
  cases v with
  | str z => exact ⟨z, rfl, nm_abc h⟩
  | _ => cases h
theorem all_names : ∀ {xs : List V}, (xs.map itB).all id = true → ∃ ns : List Str, xs = ns.map V.str ∧ ∀ z ∈ ns, IsNm z
  | [], _ => ⟨[], rfl, fun z h => by cases h⟩
  | x :: xs, h => by
    rw [List.map_cons, List.all_cons, Bool.and_eq_true] at h
    obtain ⟨z, rfl, hz⟩ := itB_str h.1
    obtain ⟨ns, rfl, hn⟩ := all_names h.2
    exact ⟨z :: ns, rfl, fun y hy => by
      rcases List.mem_cons.mp hy with rfl | hy
      · exact hz
      · exact hn y hy⟩
theorem names_all {ns : List Str} (h : ∀ z ∈ ns, IsNm z) : ((ns.map V.str).map itB).all id = true := by
  rw [List.map_map, List.all_map]
  exact List.all_eq_true.mpr fun z hz => nmB_of (h z hz)
theorem V_strs_inj : ∀ {xs ys : List Str}, xs.map V.str = ys.map V.str → xs = ys
  | [], [], _ => rfl
  | [], _ :: _, h => by cases h
  | _ :: _, [], h => by cases h
  | x :: xs, y :: ys, h => by
    rw [List.map_cons, List.map_cons] at h
    have h1 := V.str.inj (List.cons.inj h).1
    rw [h1, V_strs_inj (List.cons.inj h).2]
section
variable {P : Program} {w : World} {K : PySem.W.Frag} {mg : Str → Option Value} {base : Heap}
def spAreN : Sp := fun vs H Q _ => ∃ (v : V) (m : Nat), vs = [v, .int (m : Int)] ∧ NearV H v ∧ (∀ a xs, v = .ref a → H a = some (.tup xs) → (∀ x ∈ xs, NearV H x) ∧ xs.length ≤ 20) ∧ m ≤ 4 ∧ 1 ≤ m ∧
  ((Good H v m ∧ ∀ H', Same H H' → Q (.bl true) H') ∨ (¬ Good H v m ∧ ∀ H', Same H H' → Q (.bl false) H'))
theorem ok_are_names (T : Txt K mg) : FnOk P w K mg base CX0 3 T.f_are_names T.fd_are_names ["value", "many"] (spAreN) := by
  refine T.F_are_names.ok sc_are_names (fun vs H Q E h => ?_) (fun cdv A outer s H vs Q E hr h => ?_)
  · obtain ⟨v, m, rfl, _⟩ := h
    rfl
  · obtain ⟨v, m, rfl, hv, its, m4, m1, h⟩ := h
    refine ⟨_, (pss_cons (ps_if (PW.pt (pw_or (pt_not (pt_val (pe_callB call_isi (by rfl) T.n_isinstance (by decide +kernel) (pa_cons (pv 0) (pa_cons (pe_bltn (v := .ty "tuple") (by rfl) T.n_tuple (by decide +kernel) rfl) pa_nil))))) (pw_or1 (pt_cmpR op_ne (pe_callB call_len_seq (by rfl) T.n_len PySem.boot_len (pa_cons (pv 0) pa_nil)) (pv 1) (nomark _))))) (pss_one (ps_ret pe_bl)) pss_nil)
  (pss_cons (ps_if (pt_not (pt_val (pe_callB (cr_all rfl) (by rfl) T.n_all (by decide +kernel) (pa_cons (pe_lc (own := [("name", 2)]) (g := gName 2) (by rfl) sc_are_names.nd (pi_tup (pv 0)) (blkOk_by (own := [("name", 2)]) (by rfl)) (fun _ _ _ _ _ => (pg_name (i := 2) sc_are_names.nd rfl (Or.inl rfl))) (fun _ _ _ _ _ => pts_nil) (fun _ _ _ _ _ => (pe_and (pe_callB (call_isiK K) (by rfl) T.n_isinstance (by decide +kernel) (pa_cons (pv 2) (pa_cons (pe_bltn (v := .ty "str") (by rfl) T.n_str (by decide +kernel) rfl) pa_nil))) (pe_one (pe_call (ok_is_letters T) (hr.mono (by decide)) (by rfl) T.g_is_letters T.F_is_letters.kp T.b_is_letters .nil pass0 (pa_cons (pv 2) (pa_cons pe_int pa_nil))))))) pa_nil)))) (pss_one (ps_ret pe_bl)) pss_nil)
  (pss_one (ps_ret (pe_cmpR op_eq (OGX.pe_lenSetN (by rfl) (by rfl) T.n_len (by rfl) T.n_set (pv 0)) (pv 1) (nomark _)))))), ?_⟩
    have no : ¬ Good H v m → ∀ H', Same H H' → Q (.bl false) H' := fun n => h.elim (fun g => absurd g.1 n) fun g => g.2
    rcases near_tup (K := K) hv with ⟨a, xs, rfl, ha, ty0, ty, kt⟩ | ⟨nt, ty0, ty, kt⟩
    case inr =>
      refine ⟨v, rfl, _, _, ty0, _, _, rfl, .ty _, ty, kt, ?_⟩
      refine ⟨_, rfl, ?_⟩
      refine iteT ?_
      refine iteT ?_
      exact no (fun ⟨t, ns, e, g, _⟩ => nt ⟨t, _, e, g⟩) H (Same.refl _)
    obtain ⟨nx, lx⟩ := its a xs rfl ha
    refine ⟨.ref a, rfl, _, _, ty0, _, _, rfl, .ty _, ty, kt, ?_⟩
    refine ⟨_, rfl, ?_⟩
    refine iteF ?_
    refine ⟨.ref a, rfl, a, _, rfl, .inr (SqT.of ha), .int (m : Int), rfl, rfl, _, rfl, ?_⟩
    rw [show decide (V.int (xs.length : Int) = V.int (m : Int)) = decide (xs.length = m) from decide_eq_decide.mpr ⟨fun h => by have := V.int.inj h; omega, fun h => by rw [h]⟩]
    by_cases el : xs.length = m
    case neg =>
      rw [decide_eq_false el]
      refine iteT ?_
      refine no (fun ⟨t, ns, e, g, l, _⟩ => el ?_) H (Same.refl _)
      cases e
      rw [ha] at g
      cases g
      rw [List.length_map]
      exact l
    rw [decide_eq_true el]
    refine iteF ?_
    dsimp only [tNext, tSeq]
    refine ⟨.ref a, rfl, a, rfl, ⟨_, SqT.of ha⟩, fun D hD => ?_⟩
    refine lc_tup (K := K) (a := a) (xs := xs) (fun i H' => Same H H' ∧ H' D = some (.lst (((xs.take i).map itB).map V.bl))) ⟨same_new hD, upd_same⟩ (fun i H' _ ⟨s, _⟩ => SqT.of (s _ _ ha)) ?_ ?_
    · rintro i x H1 hx ⟨s1, g1⟩
      have hi := (List.getElem?_eq_some_iff.mp hx).1
      have nxi := (nx x (List.mem_of_getElem? hx)).same s1
      obtain ⟨t2, ty2, kt2⟩ := isi_ty (K := K) nxi
      have fin : ∀ (b : Bool) (H2 : Hp), b = itB x → Same H1 H2 → ∃ acc, H2 D = some (.lst acc) ∧ acc.length < sizeLine ∧ Same H (upd H2 D (.lst (acc ++ [.bl b]))) ∧ upd H2 D (.lst (acc ++ [.bl b])) D = some (.lst (((xs.take (i + 1)).map itB).map V.bl)) := fun b H2 eb s2 => by
        refine ⟨_, s2 _ _ g1, ?_, fun b' o e => ?_, ?_⟩
        · rw [List.length_map, List.length_map, List.length_take]
          exact small1000 (by omega)
        · rw [upd_ne (ne_of_none e hD)]
          exact s2 _ _ (s1 _ _ e)
        · rw [upd_same, take_more hx, List.map_append, List.map_append, eb]
          rfl
      refine ⟨rfl, ?_⟩
      refine ⟨x, rfl, _, _, t2, _, _, rfl, .ty _, ty2, kt2, ?_⟩
      refine ⟨_, rfl, ?_⟩
      by_cases hs : ∃ z, x = .str z
      · obtain ⟨z, rfl⟩ := hs
        refine iteT ?_
        refine ⟨.str z, rfl, z, 4, rfl, Nat.le_trans nxi (by decide), fun H2 s2 => ?_⟩
        exact fin _ H2 rfl s2
      · have e2 : isStr x = false := by
          cases x <;> first | rfl | exact absurd ⟨_, rfl⟩ hs
        have e3 : itB x = false := by
          cases x <;> first | rfl | exact absurd ⟨_, rfl⟩ hs
        rw [e2]
        refine iteF ?_
        exact fin false H1 e3.symm (Same.refl _)
    · rintro H1 ⟨s1, g1⟩
      rw [List.take_length] at g1
      refine ⟨D, _, rfl, SqL.of g1, ?_⟩
      cases eb : (xs.map itB).all id with
      | false =>
        refine ⟨_, rfl, ?_⟩
        refine iteT ?_
        refine no (fun ⟨t, ns, e, g, l, n1, _⟩ => ?_) H1 s1
        cases e
        rw [ha] at g
        cases g
        rw [names_all n1] at eb
        cases eb
      | true =>
        refine ⟨_, rfl, ?_⟩
        refine iteF ?_
        dsimp only [tNext, tSeq]
        obtain ⟨ns, rfl, hn⟩ := all_names eb
        rw [List.length_map] at el lx
        refine ⟨.ref a, rfl, a, ns, rfl, SqT.of (s1 _ _ ha), lx, .int (m : Int), rfl, rfl, ?_⟩
        have ev : decide (V.int ((OGX.unl ns ns.length : Nat) : Int) = V.int (m : Int)) = decide ns.Nodup := decide_eq_decide.mpr ⟨fun h => by
          have h := V.int.inj h
          have := OGX.unl_nd ns ns.length (Nat.le_refl _) (by omega)
          rwa [List.take_length] at this, fun h => by
          rw [OGX.nd_unl ns h ns.length (Nat.le_refl _), el]⟩
        rw [ev]
        by_cases nd : ns.Nodup
        · rw [decide_eq_true nd]
          exact h.elim (fun g => g.2 H1 s1) fun g => absurd ⟨a, ns, rfl, ha, el, hn, nd⟩ g.1
        · rw [decide_eq_false nd]
          refine no (fun ⟨t, ns', e, g, l, n1, nd'⟩ => nd ?_) H1 s1
          cases e
          rw [ha] at g
          have := V_strs_inj (HO.tup.inj (Option.some.inj g))
          rw [this]
          exact nd'
end
end OG
set_option Elab.async false
set_option linter.all false
set_option maxRecDepth 100000
set_option maxHeartbeats 8000000
namespace OG
open PySem PySem.Spec PyProof.Rows L2
section
variable {P : Program} {w : World} {K : PySem.W.Frag} {mg : Str → Option Value} {base : Heap}
def spItN : Sp := fun vs H Q _ => ∃ v : V, vs = [v] ∧ NearV H v ∧ ∀ H', Same H H' → Q (.bl (itB v)) H'
theorem ok_l_is_name (T : Txt K mg) : FnOk P w K mg base CX0 2 T.f_l_is_name T.fd_l_is_name ["value"] (spItN) := by
  refine T.F_l_is_name.ok sc_l_is_name (fun vs H Q E h => ?_) (fun cdv A outer s H vs Q E hr h => ?_)
  · obtain ⟨v, rfl, _⟩ := h
    rfl
  · obtain ⟨v, rfl, hv, q⟩ := h
    refine ⟨_, (pss_cons (ps_if (PW.pt (pw_or (pt_not (pt_val (pe_callB call_isi (by rfl) T.n_isinstance (by decide +kernel) (pa_cons (pv 0) (pa_cons (pe_bltn (v := .ty "str") (by rfl) T.n_str (by decide +kernel) rfl) pa_nil))))) (pw_or1 (pt_not (pt_chain op_le op_le pe_int (pe_callB call_len_str (by rfl) T.n_len PySem.boot_len (pa_cons (pv 0) pa_nil)) pe_int))))) (pss_one (ps_ret pe_bl)) pss_nil)
  (pss_one (ps_ret (pe_callB (cr_all rfl) (by rfl) T.n_all (by decide +kernel) (pa_cons (pe_lc (own := [("sign", 1)]) (g := gName 1) (by rfl) sc_l_is_name.nd (pi_str (pv 0)) (blkOk_by (own := [("sign", 1)]) (by rfl)) (fun _ _ _ _ _ => (pg_name (i := 1) sc_l_is_name.nd rfl (Or.inl rfl))) (fun _ _ _ _ _ => pts_nil) (fun _ _ _ _ _ => (pe_cmpR op_in_sign (pv 1) pe_str rfl))) pa_nil))))), ?_⟩
    obtain ⟨ty0, ty, kt⟩ := isi_ty (K := K) hv
    refine ⟨v, rfl, _, _, ty0, _, _, rfl, .ty _, ty, kt, ?_⟩
    refine ⟨_, rfl, ?_⟩
    by_cases hs : ∃ z, v = .str z
    case neg =>
      have e2 : isStr v = false := by
        cases v <;> first | rfl | exact absurd ⟨_, rfl⟩ hs
      have e3 : itB v = false := by
        cases v <;> first | rfl | exact absurd ⟨_, rfl⟩ hs
      rw [e2]
      refine iteT ?_
      refine iteT ?_
      rw [e3] at q
      exact q H (Same.refl _)
    obtain ⟨z, rfl⟩ := hs
    refine iteF ?_
    have hz : z.length ≤ 900000 := hv
    have e0 : itB (.str z) = (decide (z.length ≤ 4) && (decide (0 < z.length) && (tl z).all fun c => decide (c ∈ tl "abcdefghijklmnopqrstuvwxyz"))) := rfl
    rw [e0] at q
    refine ⟨.str z, rfl, z, rfl, Nat.le_trans hz (by decide), ?_⟩
    refine ⟨_, _, rfl, rfl, _, rfl, ?_⟩
    by_cases h1 : 1 ≤ z.length
    case neg =>
      rw [decide_eq_false (show ¬ (1 : Int) ≤ (z.length : Int) by omega)]
      refine iteF ?_
      refine ⟨_, rfl, ?_⟩
      refine iteT ?_
      rw [decide_eq_false (show ¬ 0 < z.length by omega), Bool.false_and, Bool.and_false] at q
      exact q H (Same.refl _)
    rw [decide_eq_true (show (1 : Int) ≤ (z.length : Int) by omega)]
    refine iteT ?_
    refine ⟨_, _, rfl, rfl, _, rfl, ?_⟩
    by_cases h4 : z.length ≤ 4
    case neg =>
      rw [decide_eq_false (show ¬ (z.length : Int) ≤ 4 by omega)]
      refine iteT ?_
      rw [decide_eq_false h4, Bool.false_and] at q
      exact q H (Same.refl _)
    rw [decide_eq_true (show (z.length : Int) ≤ 4 by omega)]
    refine iteF ?_
    rw [decide_eq_true h4, decide_eq_true (show 0 < z.length by omega), Bool.true_and, Bool.true_and] at q
    dsimp only [tNext, tSeq]
    refine ⟨.str z, rfl, z, rfl, fun D hD => ?_⟩
    refine lc_signs (x := z) (fun c => decide (c ∈ tl "abcdefghijklmnopqrstuvwxyz")) (by omega) hD (fun c H' Q' hq => ?_) (fun _ => rfl) (fun H6 s6 h6 => ?_)
    · exact ⟨_, rfl, c, "abcdefghijklmnopqrstuvwxyz", rfl, rfl, hq⟩
    · refine ⟨D, (tl z).map fun c => decide (c ∈ tl "abcdefghijklmnopqrstuvwxyz"), rfl, SqL.of h6, ?_⟩
      rw [all_id]
      exact q H6 s6
theorem ok_l_are_names (T : Txt K mg) : FnOk P w K mg base CX0 3 T.f_l_are_names T.fd_l_are_names ["value", "many"] (spAreN) := by
  refine T.F_l_are_names.ok sc_l_are_names (fun vs H Q E h => ?_) (fun cdv A outer s H vs Q E hr h => ?_)
  · obtain ⟨v, m, rfl, _⟩ := h
    rfl
  · obtain ⟨v, m, rfl, hv, its, m4, m1, h⟩ := h
    refine ⟨_, (pss_cons (ps_if (PW.pt (pw_or (pt_not (pt_val (pe_callB call_isi (by rfl) T.n_isinstance (by decide +kernel) (pa_cons (pv 0) (pa_cons (pe_bltn (v := .ty "tuple") (by rfl) T.n_tuple (by decide +kernel) rfl) pa_nil))))) (pw_or (pt_cmpR op_ne (pe_callB call_len_seq (by rfl) T.n_len PySem.boot_len (pa_cons (pv 0) pa_nil)) (pv 1) (nomark _)) (pw_or1 (pt_not (pt_val (pe_callB (cr_all rfl) (by rfl) T.n_all (by decide +kernel) (pa_cons (pe_lc (own := [("one", 2)]) (g := gName 2) (by rfl) sc_l_are_names.nd (pi_tup (pv 0)) (blkOk_by (own := [("one", 2)]) (by rfl)) (fun _ _ _ _ _ => (pg_name (i := 2) sc_l_are_names.nd rfl (Or.inl rfl))) (fun _ _ _ _ _ => pts_nil) (fun _ _ _ _ _ => (pe_call (ok_l_is_name T) (hr.mono (by decide)) (by rfl) T.g_l_is_name T.F_l_is_name.kp T.b_l_is_name .nil pass0 (pa_cons (pv 2) pa_nil)))) pa_nil)))))))) (pss_one (ps_ret pe_bl)) pss_nil)
  (pss_one (ps_ret (pe_cmpR op_eq (OGX.pe_lenSetN (by rfl) (by rfl) T.n_len (by rfl) T.n_set (pv 0)) (pv 1) (nomark _))))), ?_⟩
    have no : ¬ Good H v m → ∀ H', Same H H' → Q (.bl false) H' := fun n => h.elim (fun g => absurd g.1 n) fun g => g.2
    rcases near_tup (K := K) hv with ⟨a, xs, rfl, ha, ty0, ty, kt⟩ | ⟨nt, ty0, ty, kt⟩
    case inr =>
      refine ⟨v, rfl, _, _, ty0, _, _, rfl, .ty _, ty, kt, ?_⟩
      refine ⟨_, rfl, ?_⟩
      refine iteT ?_
      refine iteT ?_
      exact no (fun ⟨t, ns, e, g, _⟩ => nt ⟨t, _, e, g⟩) H (Same.refl _)
    obtain ⟨nx, lx⟩ := its a xs rfl ha
    refine ⟨.ref a, rfl, _, _, ty0, _, _, rfl, .ty _, ty, kt, ?_⟩
    refine ⟨_, rfl, ?_⟩
    refine iteF ?_
    refine ⟨.ref a, rfl, a, _, rfl, .inr (SqT.of ha), .int (m : Int), rfl, rfl, _, rfl, ?_⟩
    rw [show decide (V.int (xs.length : Int) = V.int (m : Int)) = decide (xs.length = m) from decide_eq_decide.mpr ⟨fun h => by have := V.int.inj h; omega, fun h => by rw [h]⟩]
    by_cases el : xs.length = m
    case neg =>
      rw [decide_eq_false el]
      refine iteT ?_
      refine iteT ?_
      refine no (fun ⟨t, ns, e, g, l, _⟩ => el ?_) H (Same.refl _)
      cases e
      rw [ha] at g
      cases g
      rw [List.length_map]
      exact l
    rw [decide_eq_true el]
    refine iteF ?_
    refine ⟨.ref a, rfl, a, rfl, ⟨_, SqT.of ha⟩, fun D hD => ?_⟩
    refine lc_tup (K := K) (a := a) (xs := xs) (fun i H' => Same H H' ∧ H' D = some (.lst (((xs.take i).map itB).map V.bl))) ⟨same_new hD, upd_same⟩ (fun i H' _ ⟨s, _⟩ => SqT.of (s _ _ ha)) ?_ ?_
    · rintro i x H1 hx ⟨s1, g1⟩
      have hi := (List.getElem?_eq_some_iff.mp hx).1
      have nxi := (nx x (List.mem_of_getElem? hx)).same s1
      refine ⟨rfl, ?_⟩
      refine ⟨x, rfl, x, rfl, nxi, fun H2 s2 => ⟨_, s2 _ _ g1, ?_, fun b' o e => ?_, ?_⟩⟩
      · rw [List.length_map, List.length_map, List.length_take]
        exact small1000 (by omega)
      · rw [upd_ne (ne_of_none e hD)]
        exact s2 _ _ (s1 _ _ e)
      · rw [upd_same, take_more hx, List.map_append, List.map_append]
        rfl
    · rintro H1 ⟨s1, g1⟩
      rw [List.take_length] at g1
      refine ⟨D, _, rfl, SqL.of g1, ?_⟩
      refine ⟨_, rfl, ?_⟩
      cases eb : (xs.map itB).all id with
      | false =>
        refine iteT ?_
        refine no (fun ⟨t, ns, e, g, l, n1, _⟩ => ?_) H1 s1
        cases e
        rw [ha] at g
        cases g
        rw [names_all n1] at eb
        cases eb
      | true =>
        refine iteF ?_
        dsimp only [tNext, tSeq]
        obtain ⟨ns, rfl, hn⟩ := all_names eb
        rw [List.length_map] at el lx
        refine ⟨.ref a, rfl, a, ns, rfl, SqT.of (s1 _ _ ha), lx, .int (m : Int), rfl, rfl, ?_⟩
        have ev : decide (V.int ((OGX.unl ns ns.length : Nat) : Int) = V.int (m : Int)) = decide ns.Nodup := decide_eq_decide.mpr ⟨fun h => by
          have h := V.int.inj h
          have := OGX.unl_nd ns ns.length (Nat.le_refl _) (by omega)
          rwa [List.take_length] at this, fun h => by
          rw [OGX.nd_unl ns h ns.length (Nat.le_refl _), el]⟩
        rw [ev]
        by_cases nd : ns.Nodup
        · rw [decide_eq_true nd]
          exact h.elim (fun g => g.2 H1 s1) fun g => absurd ⟨a, ns, rfl, ha, el, hn, nd⟩ g.1
        · rw [decide_eq_false nd]
          refine no (fun ⟨t, ns', e, g, l, n1, nd'⟩ => nd ?_) H1 s1
          cases e
          rw [ha] at g
          have := V_strs_inj (HO.tup.inj (Option.some.inj g))
          rw [this]
          exact nd'
end
end OG
set_option Elab.async false
set_option linter.all false
set_option maxRecDepth 100000
set_option maxHeartbeats 8000000
namespace OG
open PySem PySem.Spec PyProof.Rows L2
theorem rgV_nat (n : Nat) : rgV 0 (n : Int) = (List.range n).map fun (i : Nat) => V.int (i : Int) := by
  unfold rgV
  rw [show ((n : Int) - 0).toNat = n by omega]
  exact List.map_congr_left fun i _ => by rw [Int.zero_add]
theorem valV_zip : ∀ {ms : List Str} {ws : List Int} {i : Nat} {mk : Str} {w : Int}, ms.Nodup → ms[i]? = some mk → ws[i]? = some w → valV (kvM (ms.zip ws)) (.inr mk) = some (.int w)
  | [], _, _, _, _, _, h, _ => by simp at h
  | _ :: _, [], _, _, _, _, _, h => by simp at h
  | m :: ms, v :: ws, 0, mk, w, _, h1, h2 => by
    cases Option.some.inj h1
    cases Option.some.inj h2
    exact valV_pos rfl
  | m :: ms, v :: ws, i + 1, mk, w, nd, h1, h2 => by
    rw [List.nodup_cons] at nd
    have h1 : ms[i]? = some mk := h1
    have e : kvM ((m :: ms).zip (v :: ws)) = (Sum.inr m, V.int v) :: kvM (ms.zip ws) := rfl
    rw [e, valV_neg (k_ne fun z => nd.1 (by rw [z]; exact List.mem_of_getElem? h1))]
    exact valV_zip nd.2 h1 h2
theorem flat_at {m c : Nat} (hc : c < m) : ∀ {M : List (List Int)} {a : Nat} {row : List Int}, (∀ r ∈ M, r.length = m) → M[a]? = some row → M.flatten[a * m + c]? = row[c]?
  | [], _, _, _, h => by simp at h
  | r :: M, 0, row, hr, h => by
    cases Option.some.inj h
    rw [List.flatten_cons, Nat.zero_mul, Nat.zero_add, List.getElem?_append_left (by rw [hr r List.mem_cons_self]; exact hc)]
  | r :: M, a + 1, row, hr, h => by
    have h : M[a]? = some row := h
    have l := hr r List.mem_cons_self
    rw [List.flatten_cons, List.getElem?_append_right (by rw [l, Nat.succ_mul]; omega), l, show (a + 1) * m + c - m = a * m + c by rw [Nat.succ_mul]; omega]
    exact flat_at hc (fun r hr' => hr r (List.mem_cons_of_mem _ hr')) h
theorem range_at {m j : Nat} {x : V} (h : ((List.range m).map fun (i : Nat) => V.int (i : Int))[j]? = some x) : j < m ∧ x = .int (j : Int) := by
  have hj := (List.getElem?_eq_some_iff.mp h).1
  rw [List.length_map, List.length_range] at hj
  rw [List.getElem?_map, List.getElem?_range hj] at h
  exact ⟨hj, (Option.some.inj h).symm⟩
end OG
set_option Elab.async false
set_option linter.all false
set_option maxRecDepth 100000
set_option maxHeartbeats 8000000
namespace OG
open PySem PySem.Spec PyProof.Rows L2
def wAt (ws : List Int) (i : Nat) : Int := ws.getD i 0
def mAt (M : List (List Int)) (i j : Nat) : Int := (M.getD i []).getD j 0
theorem out_tup {K : PySem.W.Frag} {a : Addr} {xs : List V} {H0 : Hp} {Qd : Hp → Prop} {Body : V → Hp → (Hp → Prop) → Prop} (Pv : Nat → Hp → Prop) (h0 : Pv 0 H0) (hl : ∀ i H, i ≤ xs.length → Pv i H → SqT K H a xs)
    (hs : ∀ i x H, xs[i]? = some x → Pv i H → Body x H (Pv (i + 1))) (hd : ∀ H, Pv xs.length H → Qd H) :
    ∃ W : Nat → Nat → Hp → Prop, (∃ m, W 0 m H0) ∧ ∀ i m H, W i m H →
      ((Itt K a).stop i H ∧ Qd H) ∨ ((Itt K a).go i H ∧ ∃ Nx : Hp → Prop, (∀ H', Nx H' → ∃ m', m' < m ∧ W (i + 1) m' H') ∧ ∀ x H', (Itt K a).yld i H x H' → Body x H' Nx) := by
  refine ⟨fun i m H => m = xs.length - i ∧ i ≤ xs.length ∧ Pv i H, ⟨xs.length, by simp, Nat.zero_le _, h0⟩, ?_⟩
  rintro i m H ⟨rfl, hi, p⟩
  have q := hl i H hi p
  by_cases hlt : i < xs.length
  · refine .inr ⟨⟨xs, xs[i], q, by simp [hlt]⟩, Pv (i + 1), fun H' p' => ⟨xs.length - (i + 1), by omega, rfl, hlt, p'⟩, fun x H' y => ?_⟩
    obtain ⟨e, y⟩ := y
    subst e
    exact hs i x _ (y xs q) p
  · have e : i = xs.length := by omega
    subst e
    exact .inl ⟨⟨xs, q, Nat.le_refl _⟩, hd H p⟩
/-- a Book of an own text -/
structure BO {K : PySem.W.Frag} {mg : Str → Option Value} (T : Txt K mg) (H : Hp) (x : Addr) (z : Str) (b : Int) (m : Nat) (ms ks : List Str) (ws : List Int) (Ms : List (List (List Int))) : Prop where
  obj : ObjAt T H x z b (ms.zip ws) (ks.zip (Ms.map List.flatten))
  ok : BkOk b m ms ws ks Ms
  mat : ∀ M ∈ Ms, MatOk b m M
theorem BO.same {K : PySem.W.Frag} {mg : Str → Option Value} {T : Txt K mg} {H H' : Hp} {x : Addr} {z : Str} {b : Int} {m : Nat} {ms ks : List Str} {ws : List Int} {Ms : List (List (List Int))} (h : BO T H x z b m ms ks ws Ms) (s : Same H H') : BO T H' x z b m ms ks ws Ms := ⟨h.obj.same s, h.ok, h.mat⟩
theorem wAt_get {ws : List Int} {i : Nat} (h : i < ws.length) : ws[i]? = some (wAt ws i) := by
  unfold wAt
  rw [List.getD_eq_getElem?_getD, List.getElem?_eq_getElem h]
  rfl
theorem mAt_get {b : Int} {m : Nat} {M : List (List Int)} (h : MatOk b m M) {i j : Nat} (hi : i < m) (hj : j < m) : M.flatten[i * m + j]? = some (mAt M i j) := by
  obtain ⟨h1, h2⟩ := h
  have hr : M[i]? = some M[i] := List.getElem?_eq_getElem (by omega)
  rw [flat_at hj (fun r hr => (h2 r hr).1) hr]
  unfold mAt
  rw [List.getD_eq_getElem?_getD, List.getD_eq_getElem?_getD, hr]
  have := (h2 _ (List.mem_of_getElem? hr)).1
  show M[i][j]? = some (M[i][j]?.getD 0)
  rw [List.getElem?_eq_getElem (by omega)]
  rfl
theorem zipk {b : Int} {m : Nat} {ms ks : List Str} {ws : List Int} {Ms : List (List (List Int))} (ok : BkOk b m ms ws ks Ms) : (ms.zip ws).map (·.1) = ms ∧ (ks.zip (Ms.map List.flatten)).map (·.1) = ks ∧ (ms.zip ws).length = m := by
  have := ok.nm.len
  have := ok.wl
  have := ok.ml
  refine ⟨?_, ?_, ?_⟩
  · rw [List.map_fst_zip]
    omega
  · rw [List.map_fst_zip]
    rw [List.length_map]
    omega
  · rw [List.length_zip]
    omega
/-- lists of ints by keys -/
inductive KvL (H : Hp) : List (Key × V) → List (Str × List Int) → Prop
  | nil : KvL H [] []
  | cons {k : Str} {a : Addr} {zs : List Int} {kv : List (Key × V)} {kw : List (Str × List Int)} : H a = some (.lst (zs.map V.int)) → KvL H kv kw → KvL H ((.inr k, .ref a) :: kv) ((k, zs) :: kw)
theorem KvL.keep {H H' : Hp} (g : ∀ a xs, H a = some (.lst xs) → H' a = some (.lst xs)) {kv : List (Key × V)} {kw : List (Str × List Int)} (h : KvL H kv kw) : KvL H' kv kw := by
  induction h with
  | nil => exact .nil
  | cons h _ ih => exact .cons (g _ _ h) ih
theorem KvL.snoc {H : Hp} {k : Str} {a : Addr} {zs : List Int} (h : H a = some (.lst (zs.map V.int))) : ∀ {kv : List (Key × V)} {kw : List (Str × List Int)}, KvL H kv kw → KvL H (kv ++ [(.inr k, .ref a)]) (kw ++ [(k, zs)])
  | _, _, .nil => .cons h .nil
  | _, _, .cons h' t => .cons h' (KvL.snoc h t)
theorem KvL.keys {H : Hp} : ∀ {kv : List (Key × V)} {kw : List (Str × List Int)}, KvL H kv kw → kv.map (·.1) = kw.map fun p => Sum.inr p.1
  | _, _, .nil => rfl
  | _, _, .cons _ t => by rw [List.map_cons, List.map_cons, KvL.keys t]
section
variable {P : Program} {w : World} {K : PySem.W.Frag} {mg : Str → Option Value} {base : Heap}
def spTable3 (T : Txt K mg) : Sp := fun vs H Q _ => ∃ (x t : Addr) (z : Str) (b : Int) (m : Nat) (ms ks : List Str) (ws : List Int) (Ms : List (List (List Int))), vs = [.ref x, .ref t] ∧ BO T H x z b m ms ks ws Ms ∧ MkT H t (ms.map V.str) ∧
  ∀ (d : Addr) (kvs : List (Key × V)) (H' : Hp), Same H H' → H' d = some (.dK kvs) → H d = none → KvL H' kvs (ks.zip (Ms.map List.flatten)) → Q (.ref d) H'
theorem ok_table (T : Txt K mg) (XT : TxtX K mg T) (XM : TxtM K mg T) : FnOk P w K mg base CX0 5 T.f_table T.fd_table ["book", "marks"] (spTable3 T) := by
  refine T.F_table.ok sc_table (fun vs H Q E h => ?_) (fun cdv A outer s H vs Q E hr h => ?_)
  · obtain ⟨x, t, _, _, _, _, _, _, _, rfl, _⟩ := h
    rfl
  · obtain ⟨x, t, z, b, m, ms, ks, ws, Ms, rfl, hX, hT, q⟩ := h
    refine ⟨_, (pss_cons (ps_set (i := 2) sc_table.nd rfl (Or.inl rfl) pe_dnewK)
  (pss_cons (ps_for PassesOwn.never rfl (pi_tup (pe_fld (pv 0) rfl)) (pg_name (i := 3) sc_table.nd rfl (Or.inr rfl)) (pss_one (ps_dput (hu_of hr) (pv 2) (pv 3) (pe_lc2 (own := [("mark", 4), ("to", 5)]) (vs1 := [5]) (g := gName 4) (g1 := gName 5) (by rfl) sc_table.nd (pi_tup (pv 1)) (blkOk_by (own := [("mark", 4), ("to", 5)]) (by rfl)) (by decide) (fun _ _ _ _ _ => (pg_name (i := 4) sc_table.nd rfl (Or.inl rfl))) (fun _ _ _ _ _ => pts_nil) (fun _ _ _ _ _ => (pi_tupK K (pv 1))) (fun _ _ _ _ _ => (pg_name (i := 5) sc_table.nd rfl (Or.inl rfl))) (fun _ _ _ _ _ => pts_nil) (fun _ _ _ _ _ => (pe_meth (pv 0) XT.cl XM.m_worth (ok_Book_worth T XT XM) (hr.mono (by decide)) T.b_Book_worth .nil passL (pa_cons (pv 3) (pa_cons (pv 4) (pa_cons (pv 5) pa_nil)))))) rfl)))
  (pss_one (ps_ret (pv 2))))), ?_⟩
    refine fun d hd => ?_
    have s0 := same_new (o := .dK []) hd
    have g0 : (upd H d (.dK [])) d = some (.dK []) := upd_same
    generalize upd H d (.dK []) = H0 at *
    obtain ⟨dx, t1, t2, a1, a2, fs, kv2, hx, _, f1, f2, f3, g1, f4, g2, f5, g3, f6, g4, g5, n1, n2⟩ := id hX.obj
    obtain ⟨zk1, zk2, zk3⟩ := zipk hX.ok
    have hml := hX.ok.nm.len
    have hMl := hX.ok.ml
    have hm4 := hX.ok.m4
    have hk3 := hX.ok.k3
    rw [zk2] at g2
    have mk : ∀ {H' : Hp} {tt : Addr} {xs : List V}, Same H H' → MkT H tt xs → SqT K H' tt xs := fun s ⟨o, e, dd⟩ => MkT.sq ⟨o, s _ _ e, dd⟩
    refine ⟨.ref x, rfl, x, T.c_Book, dx, fs, _, rfl, s0 _ _ hx, XT.cl, XT.na4, f4, t2, rfl, ⟨_, mk s0 g2⟩, ?_⟩
    refine for_tup (K := K) (a := t2) (xs := ks.map V.str) (fun i σ H' => ∃ (u3 : Option V) (kvs : List (Key × V)), σ = [some (.ref x), some (.ref t), some (.ref d), u3, none, none] ∧ Same H H' ∧ H' d = some (.dK kvs) ∧ KvL H' kvs ((ks.zip (Ms.map List.flatten)).take i))
      ⟨_, _, rfl, s0, g0, .nil⟩ (fun i σ H' _ ⟨_, _, _, s, _⟩ => mk s g2) ?_ ?_
    · rintro i u σ H1 hu ⟨u3, kvs, rfl, s1, gd, hK⟩
      obtain ⟨kd, hkd, rfl⟩ := str_at hu
      have hi := (List.getElem?_eq_some_iff.mp hkd).1
      have eM : Ms[i]? = some Ms[i] := List.getElem?_eq_getElem (by omega)
      obtain ⟨M, hM⟩ : ∃ M, M = Ms[i] := ⟨_, rfl⟩
      rw [← hM] at eM
      have mo := hX.mat M (List.mem_of_getElem? eM)
      have kz : (ks.zip (Ms.map List.flatten))[i]? = some (kd, M.flatten) := List.getElem?_zip_eq_some.mpr ⟨hkd, by rw [List.getElem?_map, eM]; rfl⟩
      have lz : M.flatten.length = m * m := by
        have : ∀ L : List (List Int), (∀ r ∈ L, r.length = m) → L.flatten.length = L.length * m := by
          intro L
          induction L with
          | nil => intro _; simp
          | cons r L ih =>
            intro h
            rw [List.flatten_cons, List.length_append, h r List.mem_cons_self, ih fun r hr => h r (List.mem_cons_of_mem _ hr), List.length_cons, Nat.succ_mul]
            omega
        rw [this M fun r hr => (mo.2 r hr).1, mo.1]
      have mm : m * m ≤ 16 := Nat.mul_le_mul hm4 hm4
      refine ⟨.ref t, rfl, t, rfl, ⟨_, mk s1 hT⟩, fun D hD => ?_⟩
      refine out_tup (xs := ms.map V.str) (fun a H' => Same H1 H' ∧ H' D = some (.lst ((M.flatten.take (a * m)).map V.int))) ⟨same_new hD, by rw [Nat.zero_mul]; exact upd_same⟩ (fun a H' _ ⟨s, _⟩ => mk (s1.trans s) hT) ?_ ?_
      · rintro a u2 H2 hu2 ⟨s2, gD⟩
        obtain ⟨m1, hm1, rfl⟩ := str_at hu2
        have ha := (List.getElem?_eq_some_iff.mp hm1).1
        refine ⟨rfl, ?_⟩
        refine ⟨.ref t, rfl, t, rfl, ⟨_, mk (s1.trans s2) hT⟩, ?_⟩
        refine out_tup (xs := ms.map V.str) (fun c H' => Same H1 H' ∧ H' D = some (.lst ((M.flatten.take (a * m + c)).map V.int))) ⟨s2, gD⟩ (fun a H' _ ⟨s, _⟩ => mk (s1.trans s) hT) ?_ ?_
        · rintro c u3' H3 hu3 ⟨s3, gD3⟩
          obtain ⟨m2, hm2, rfl⟩ := str_at hu3
          have hc := (List.getElem?_eq_some_iff.mp hm2).1
          have hX3 := hX.same (s1.trans s3)
          have val := mAt_get mo (i := a) (j := c) (by omega) (by omega)
          have nm : ∀ {y : Str} {l : List Str}, (∀ z ∈ l, IsNm z) → y ∈ l → NearV H3 (.str y) := fun h hy => nsc (Nat.le_trans (h _ hy).2.1 (by decide))
          refine ⟨rfl, ?_⟩
          refine ⟨.ref x, rfl, x, dx, fs, rfl, s3 _ _ (s1 _ _ hx), n2, .str kd, rfl, .str m1, rfl, .str m2, rfl, x, .str kd, .str m1, .str m2, z, b, _, _, rfl, nm hX.ok.nk.is (List.mem_of_getElem? hkd), nm hX.ok.nm.is (List.mem_of_getElem? hm1), nm hX.ok.nm.is (List.mem_of_getElem? hm2), hX3.obj, by rw [zk1]; exact hX.ok.nm.nd, by rw [zk2]; exact hX.ok.nk.nd, by rw [zk3]; exact hm4,
            .inr (.inr (.inr ⟨kd, m1, m2, i, a, c, M.flatten, mAt M a c, rfl, rfl, rfl, kz, by rw [zk1]; exact hm1, by rw [zk1]; exact hm2, by rw [zk3]; exact val, ?_⟩))⟩
          refine ⟨_, gD3, ?_, fun b' o e => ?_, ?_⟩
          · rw [List.length_map, List.length_take]
            exact small1000 (by omega)
          · rw [upd_ne (ne_of_none e hD)]
            exact s3 _ _ e
          · rw [upd_same, show a * m + (c + 1) = (a * m + c) + 1 by omega, take_more val, List.map_append]
            rfl
        · rintro H3 ⟨s3, gD3⟩
          rw [List.length_map, hml] at gD3
          rw [Nat.succ_mul]
          exact ⟨s3, gD3⟩
      · rintro H2 ⟨s2, gD⟩
        rw [List.length_map, hml, ← lz, List.take_length] at gD
        have keys : kvs.map (·.1) = (ks.take i).map Sum.inr := by
          rw [hK.keys, List.map_take, ← List.map_take]
          have e : (ks.zip (Ms.map List.flatten)).map (fun p => (Sum.inr p.1 : Key)) = ks.map Sum.inr := by
            rw [← zk2, List.map_map, zk2]
            rfl
          rw [List.map_take, e, List.map_take]
        have fresh : valV kvs (.inr kd) = none := by
          have h := has_key keys kd
          cases e : valV kvs (.inr kd) with
          | none => rfl
          | some v =>
            rw [e] at h
            have hm := of_decide_eq_true h.symm
            obtain ⟨j, hj⟩ := List.getElem?_of_mem hm
            obtain ⟨hjl, hj⟩ := List.getElem?_eq_some_iff.mp hj
            rw [List.length_take] at hjl
            rw [List.getElem_take] at hj
            have h2 := (List.getElem?_eq_some_iff.mp hkd).2
            have := (List.getElem_inj hX.ok.nk.nd).mp (hj.trans h2.symm)
            omega
        have lkv : kvs.length ≤ 3 := by
          have h := congrArg List.length keys
          rw [List.length_map, List.length_map, List.length_take] at h
          omega
        refine ⟨.ref d, rfl, .str kd, rfl, d, _, rfl, DPut.k (k := .inr kd) (s2 _ _ gd) (Nat.lt_of_le_of_lt (show kvs.length ≤ 1000 by omega) (by decide)), ?_⟩
        rw [putK_new _ fresh]
        refine ⟨_, _, rfl, fun b' o e => ?_, upd_same, ?_⟩
        · rw [upd_ne (ne_of_none e hd)]
          exact s2 _ _ (s1 _ _ e)
        · rw [take_more kz]
          have kp : ∀ a xs, H2 a = some (.lst xs) → upd H2 d (.dK (kvs ++ [(.inr kd, .ref D)])) a = some (.lst xs) := fun a xs e => by
            rw [upd_ne (fun z => by rw [z, s2 _ _ gd] at e; cases e)]
            exact e
          refine KvL.snoc (kp _ _ gD) (hK.keep fun a xs e => kp a xs (s2 _ _ e))
    · rintro σ H1 ⟨u3, kvs, rfl, s1, gd, hK⟩
      rw [List.length_map] at hK
      refine ⟨.ref d, rfl, q d kvs H1 s1 gd hd ?_⟩
      rwa [List.take_of_length_le (by rw [List.length_zip, List.length_map]; omega)] at hK
end
end OG
set_option Elab.async false
set_option linter.all false
set_option maxRecDepth 100000
set_option maxHeartbeats 8000000
namespace OG
open PySem PySem.Spec PyProof.Rows L2
theorem lines_fit {b : Int} {m : Nat} {ms ks : List Str} {ws : List Int} {Ms : List (List (List Int))} (ok : BkOk b m ms ws ks Ms) (hM : ∀ M ∈ Ms, MatOk b m M) : (∀ y ∈ bookLines b ms ws ks Ms, y.length ≤ 254) ∧ (bookLines b ms ws ks Ms).length ≤ 20 := by
  have hm4 := ok.m4
  have hml := ok.nm.len
  have hwl := ok.wl
  have hk3 := ok.k3
  have hMl := ok.ml
  have hb0 := ok.b0
  have hb97 := ok.b97
  have lb := istr_len (i := b) (by omega) (by omega)
  refine ⟨fun y hy => ?_, ?_⟩
  · unfold bookLines at hy
    rcases List.mem_cons.mp hy with rfl | hy
    · rw [app_len]
      exact Nat.le_trans (Nat.add_le_add_left lb 5) (by decide)
    · rcases List.mem_append.mp hy with hy | hy
      · obtain ⟨i, hi⟩ := List.getElem?_of_mem hy
        obtain ⟨z, wt, e1, e2, ey⟩ := List.getElem?_zipWith_eq_some.mp hi
        obtain ⟨_, w1, w2, _⟩ := ok.w wt (List.mem_of_getElem? e2)
        rw [← ey]
        exact Nat.le_trans (markL_len (ok.nm.is z (List.mem_of_getElem? e1)).2.1 w1 w2) (by decide)
      · obtain ⟨i, hi⟩ := List.getElem?_of_mem hy
        obtain ⟨k, M, e1, e2, ey⟩ := List.getElem?_zipWith_eq_some.mp hi
        obtain ⟨l1, l2⟩ := hM M (List.mem_of_getElem? e2)
        rw [← ey]
        exact kindL_len (ok.nk.is k (List.mem_of_getElem? e1)).2.1 (fun row hr => ⟨by rw [(l2 row hr).1]; exact hm4, fun z hz => ⟨((l2 row hr).2 z hz).1, ((l2 row hr).2 z hz).2.1⟩⟩) (by omega)
  · unfold bookLines
    rw [List.length_cons, List.length_append, List.length_zipWith, List.length_zipWith]
    omega
theorem text_fit {b : Int} {m : Nat} {ms ks : List Str} {ws : List Int} {Ms : List (List (List Int))} (ok : BkOk b m ms ws ks Ms) (hM : ∀ M ∈ Ms, MatOk b m M) : (bookText b ms ws ks Ms).length ≤ 5100 :=
  Nat.le_trans (join_le (c := 254) (n := 20) (lines_fit ok hM).1 (lines_fit ok hM).2 rfl) (by decide)
theorem KvL.at {H : Hp} : ∀ {kvs : List (Key × V)} {kw : List (Str × List Int)} {i : Nat} {k : Key} {v : V}, KvL H kvs kw → kvs[i]? = some (k, v) → ∃ (kd : Str) (a : Addr) (zs : List Int), k = .inr kd ∧ v = .ref a ∧ H a = some (.lst (zs.map V.int)) ∧ kw[i]? = some (kd, zs)
  | _, _, i, _, _, .nil, h => by simp at h
  | _, _, 0, _, _, .cons h _, e => by
    cases Option.some.inj e
    exact ⟨_, _, _, rfl, rfl, h, rfl⟩
  | _, _, i + 1, k, v, .cons _ t, e => KvL.at (i := i) t e
theorem KvL.len {H : Hp} : ∀ {kvs : List (Key × V)} {kw : List (Str × List Int)}, KvL H kvs kw → kvs.length = kw.length
  | _, _, .nil => rfl
  | _, _, .cons _ t => congrArg (· + 1) (KvL.len t)
theorem em3 (a b : Str) : Str.empty ++ a ++ b = a ++ b := by rw [PySem.Str.empty_append]
theorem em5 (a b c d : Str) : Str.empty ++ a ++ b ++ c ++ d = a ++ b ++ c ++ d := by rw [PySem.Str.empty_append]
section
variable {P : Program} {w : World} {K : PySem.W.Frag} {mg : Str → Option Value} {base : Heap}
def spBookOf (T : Txt K mg) : Sp := fun vs H Q _ => ∃ (nt wl wd : Addr) (b : Int) (m : Nat) (ns ks : List Str) (ws : List Int) (Ms : List (List (List Int))) (kvs : List (Key × V)), vs = [.int b, .ref nt, .ref wl, .ref wd] ∧ SqT K H nt (ns.map V.str) ∧ H wl = some (.lst (ws.map V.int)) ∧ H wd = some (.dK kvs) ∧ KvL H kvs (ks.zip (Ms.map List.flatten)) ∧
  BkOk b m ns ws ks Ms ∧ (∀ M ∈ Ms, MatOk b m M) ∧ (b = 0 ∨ b ∈ primesL) ∧ ∀ (y : Addr) (H' : Hp), Same H H' → H y = none → BO T H' y (bookText b ns ws ks Ms) b m ns ks ws Ms → Q (.ref y) H'
theorem ok_book_of (T : Txt K mg) (XT : TxtX K mg T) (XM : TxtM K mg T) : FnOk P w K mg base CX0 8 T.f_book_of T.fd_book_of ["by", "names", "weights", "worths"] (spBookOf T) := by
  refine T.F_book_of.ok sc_book_of (fun vs H Q E h => ?_) (fun cdv A outer s H vs Q E hr h => ?_)
  · obtain ⟨nt, wl, wd, b, _, _, _, _, _, _, rfl, _⟩ := h
    rfl
  · obtain ⟨nt, wl, wd, b, m, ns, ks, ws, Ms, kvs, rfl, hN, hW, hD, hK, ok, mats, hb, q⟩ := h
    refine ⟨_, (pss_cons (ps_set (i := 4) sc_book_of.nd rfl (Or.inl rfl) (pe_lst (pa_cons (pe_joined (.cons pe_str (.cons (pe_fmt (pv 0)) .nil))) pa_nil)))
  (pss_cons (ps_for PassesOwn.never rfl (OGX.pi_zipM (by rfl) T.n_zip (pa_cons (pv 1) (pa_cons (pv 2) pa_nil))) (pg_tup (by rfl) (pgs_cons (pg_name (i := 5) sc_book_of.nd rfl (Or.inl rfl)) (pgs_cons (pg_name (i := 6) sc_book_of.nd rfl (Or.inl rfl)) pgs_nil))) (pss_one (ps_expr (pe_bm PySem.F.plainAttrs_list PySem.F.slot_list_append PySem.F.type_list_append mt_append (pv 4) (pa_cons (pe_joined (.cons pe_str (.cons (pe_fmt (pv 5)) (.cons pe_str (.cons (pe_fmt (pv 6)) .nil))))) pa_nil)))))
  (pss_cons (ps_lock (ps_for PassesOwn.never rfl (pi_items (pv 3)) (pg_tup (by rfl) (pgs_cons (pg_name (i := 7) sc_book_of.nd rfl (Or.inl rfl)) (pgs_cons (pg_name (i := 8) sc_book_of.nd rfl (Or.inl rfl)) pgs_nil))) (pss_cons (ps_setLc (i := 9) (own := [("number", 10)]) (g := gName 10) (by rfl) sc_book_of.nd rfl rfl (sw_true rfl rfl rfl (by decide +kernel)) (pi_list (pv 8)) (blkOk_by (own := [("number", 10)]) (by rfl)) (fun _ _ _ _ _ => (pg_name (i := 10) sc_book_of.nd rfl (Or.inl rfl))) (fun _ _ _ _ _ => pts_nil) (fun _ _ _ _ _ => (pe_callTy call_str_int (by rfl) T.n_str (by decide +kernel) (pa_cons (pv 10) pa_nil))))
  (pss_one (ps_expr (pe_bm PySem.F.plainAttrs_list PySem.F.slot_list_append PySem.F.type_list_append mt_append (pv 4) (pa_cons (pe_join pe_str (pe_lst (pa_cons pe_str (pa_cons (pv 7) (StX.pa_star (pv 9) pa_nil))))) pa_nil)))))))
  (pss_one (ps_ret (pe_make XT.mkB (ok_Book_init2 T XT) (hr.mono (by decide)) (by rfl) T.g_Book T.b_Book_init .nil passL (pa_cons (pe_join pe_str (pv 4)) pa_nil))))))), ?_⟩
    have hm4 := ok.m4
    have hm1 := ok.m1
    have hnl := ok.nm.len
    have hwl := ok.wl
    have hk3 := ok.k3
    have hMl := ok.ml
    have hb0 := ok.b0
    have hb97 := ok.b97
    obtain ⟨fit1, fit2⟩ := lines_fit ok mats
    have lb := istr_len (i := b) (by omega) (by omega)
    have l1 : ("book " ++ istr b : Str).length ≤ 100 := by
      rw [app_len]
      exact Nat.le_trans (Nat.add_le_add_left lb 5) (by decide)
    refine ⟨_, rfl, szl (show 5 ≤ 16000000 by decide), .int b, rfl, .inr ⟨b, rfl, small_log (by omega) (by omega), _, rfl, ?_, ?_⟩⟩
    · rw [show Str.empty ++ ("book " : Str) ++ toString b = "book " ++ istr b from em3 _ _]
      exact szl (by omega)
    rw [show Str.empty ++ ("book " : Str) ++ toString b = "book " ++ istr b from em3 _ _]
    refine ⟨(by show 1 ≤ sizeLine; decide), fun L hL => ?_⟩
    have s1 := same_new (o := .lst [.str ("book " ++ istr b)]) hL
    have gL0 : (upd H L (.lst [.str ("book " ++ istr b)])) L = some (.lst [.str ("book " ++ istr b)]) := upd_same
    generalize upd H L (.lst [.str ("book " ++ istr b)]) = H0 at *
    refine ⟨.ref nt, rfl, .ref wl, rfl, nt, wl, ns.map V.str, ws.map V.int, rfl, hN.ext s1, SqL.of (s1 _ _ hW), ?_⟩
    refine OGX.for_zipM (K := K) (a := nt) (b := wl) (xs := ns.map V.str) (ys := ws.map V.int) (by rw [List.length_map, List.length_map, hnl, hwl]) (fun i σ H' => ∃ v5 v6 v7 v8 v9 v10 : Option V, σ = [some (.int b), some (.ref nt), some (.ref wl), some (.ref wd), some (.ref L), v5, v6, v7, v8, v9, v10] ∧ i ≤ m ∧ Same H H' ∧ H' L = some (.lst ((("book " ++ istr b) :: (List.zipWith markL ns ws).take i).map V.str)))
      ⟨none, none, none, none, none, none, rfl, Nat.zero_le _, s1, gL0⟩ (fun i σ H' ⟨_, _, _, _, _, _, _, _, s, _⟩ => ⟨hN.ext s, SqL.of (s _ _ hW)⟩) ?_ ?_
    · rintro i x y T0 σ H' hx hy ⟨u5, u6, u7, u8, u9, u10, rfl, _, s, h1⟩ hT0
      obtain ⟨z, hz, rfl⟩ := str_at hx
      obtain ⟨wt, hwt, rfl⟩ : ∃ wt, ws[i]? = some wt ∧ y = .int wt := by
        rw [List.getElem?_map] at hy
        cases e : ws[i]? with
        | none =>
          rw [e] at hy
          cases hy
        | some wt =>
          rw [e] at hy
          exact ⟨wt, rfl, (Option.some.inj hy).symm⟩
      have him : i < ns.length := (List.getElem?_eq_some_iff.mp hz).1
      obtain ⟨_, w1, w2, _⟩ := ok.w wt (List.mem_of_getElem? hwt)
      have zl := (ok.nm.is z (List.mem_of_getElem? hz)).2.1
      have wll := istr_len w1 w2
      have sT := same_new (o := .tup [.str z, .int wt]) hT0
      have hL' := sT _ _ h1
      have ml : (markL z wt).length ≤ 100 := Nat.le_trans (markL_len zl w1 w2) (by decide)
      refine ⟨T0, _, rfl, SqT.of upd_same, rfl, _, _, rfl, _, _, rfl, rfl, ?_⟩
      refine ⟨.ref L, rfl, .inl ⟨rfl, _, SqL.of hL'⟩, ?_⟩
      have e1 : Str.empty ++ ("mark " : Str) = "mark " := PySem.Str.empty_append _
      have t1 : ("mark " ++ z : Str).length ≤ 100 := by
        rw [app_len]
        show 5 + _ ≤ _
        omega
      have t2 : ("mark " ++ z ++ " " : Str).length ≤ 100 := by
        rw [app_len, app_len]
        show 5 + _ + 1 ≤ _
        omega
      refine ⟨_, rfl, szl (show 5 ≤ 16000000 by decide), ?_⟩
      rw [e1]
      refine ⟨.str z, rfl, .inl ⟨z, rfl, szl (by omega), _, rfl, szl (by omega), _, rfl, szl (by omega), .int wt, rfl, .inr ⟨wt, rfl, small_log w1 w2, _, rfl, ?_, ?_⟩⟩⟩
      · exact szl (Nat.le_trans ml (by decide))
      refine ⟨L, _, _, rfl, rfl, hL', ?_, _, _, _, _, _, _, rfl, by omega, fun a u hu => ?_, ?_⟩
      · rw [List.length_map, List.length_cons, List.length_take]
        exact small1000 (by omega)
      · rw [upd_ne (ne_of_none hu hL)]
        exact sT _ _ (s _ _ hu)
      · rw [upd_same, take_more (zw_at hz hwt), ← List.cons_append, List.map_append]
        rfl
    · rintro σ H1 ⟨u5, u6, u7, u8, u9, u10, rfl, _, s, h1⟩
      have ez : (List.zipWith markL ns ws).take (ns.map V.str).length = List.zipWith markL ns ws := List.take_of_length_le (by rw [List.length_zipWith, List.length_map]; omega)
      rw [ez] at h1
      have Lwd : L ≠ wd := fun z => by
        rw [z, hD] at hL
        cases hL
      have hD1 := s _ _ hD
      have lk : kvs.length = ks.length := by rw [hK.len, List.length_zip, List.length_map, hMl, Nat.min_self]
      refine ⟨wd, .dK kvs, hD1, trivial, fun od => ?_⟩
      have f0 : (upd H1 wd (.frz od (.dK kvs))) wd = some (.frz od (.dK kvs)) := upd_same
      have k0 : Kp wd H (upd H1 wd (.frz od (.dK kvs))) := fun a o n e => by
        rw [upd_ne n]
        exact s _ _ e
      have g0 : (upd H1 wd (.frz od (.dK kvs))) L = some (.lst ((("book " ++ istr b) :: (List.zipWith markL ns ws)).map V.str)) := by rw [upd_ne Lwd]; exact h1
      generalize upd H1 wd (.frz od (.dK kvs)) = H2 at *
      refine ⟨.ref wd, rfl, wd, od, kvs, rfl, f0, ?_⟩
      refine for_it (walk_items) (fun i σ H' => ∃ v5 v6 v7 v8 v9 v10 : Option V, σ = [some (.int b), some (.ref nt), some (.ref wl), some (.ref wd), some (.ref L), v5, v6, v7, v8, v9, v10] ∧ Kp wd H H' ∧ H' wd = some (.frz od (.dK kvs)) ∧ H' L = some (.lst ((("book " ++ istr b) :: (List.zipWith markL ns ws ++ (List.zipWith kindL ks Ms).take i)).map V.str)))
        ⟨_, _, _, _, _, _, rfl, k0, f0, by rw [List.take_zero, List.append_nil]; exact g0⟩ (fun i σ H' _ ⟨_, _, _, _, _, _, _, _, h, _⟩ => h) ?_ ?_
      · rintro i x σ H' H'' hi ⟨u5, u6, u7, u8, u9, u10, rfl, kH, fH, gL⟩ ⟨T0, x1, y1, rfl, nT, rfl, ex, ey⟩
        obtain ⟨k, v, ekv⟩ : ∃ k v, kvs[i]? = some (k, v) := ⟨_, _, List.getElem?_eq_getElem hi⟩
        dsimp only at ex ey
        rw [ekv] at ex ey
        have ex := (Option.some.inj ex).symm
        have ey := (Option.some.inj ey).symm
        subst ex ey
        obtain ⟨kd, a, zs, rfl, rfl, ha, ez⟩ := KvL.at hK ekv
        obtain ⟨hkd, ez⟩ := List.getElem?_zip_eq_some.mp ez
        obtain ⟨M, eM, rfl⟩ : ∃ M, Ms[i]? = some M ∧ zs = M.flatten := by
          rw [List.getElem?_map] at ez
          cases e : Ms[i]? with
          | none =>
            rw [e] at ez
            cases ez
          | some M =>
            rw [e] at ez
            exact ⟨M, rfl, (Option.some.inj ez).symm⟩
        have mo := mats M (List.mem_of_getElem? eM)
        have kl := (ok.nk.is kd (List.mem_of_getElem? hkd)).2.1
        have awd : a ≠ wd := fun z => by
          rw [z, hD] at ha
          cases ha
        have mb : ∀ z ∈ M.flatten, -1000000000000 ≤ z ∧ z ≤ 1000000000000 := fun z hz => by
          obtain ⟨r, hr, hz⟩ := List.mem_flatten.mp hz
          obtain ⟨t1, t2, _⟩ := (mo.2 r hr).2 z hz
          exact ⟨t1, t2⟩
        have ml : M.flatten.length ≤ 16 := by
          have : ∀ L : List (List Int), (∀ r ∈ L, r.length = m) → L.flatten.length = L.length * m := by
            intro L
            induction L with
            | nil => intro _; simp
            | cons r L ih =>
              intro h
              rw [List.flatten_cons, List.length_append, h r List.mem_cons_self, ih fun r hr => h r (List.mem_cons_of_mem _ hr), List.length_cons, Nat.succ_mul]
              omega
          rw [this M fun r hr => (mo.2 r hr).1, mo.1]
          exact Nat.mul_le_mul hm4 hm4
        have sT := same_new (o := .tup [.str kd, .ref a]) nT
        have kT := kH.trans (Same.kp sT)
        have fT := sT _ _ fH
        have gT := sT _ _ gL
        have gt : (upd H' T0 (.tup [.str kd, .ref a])) T0 = some (.tup [.str kd, .ref a]) := upd_same
        have hkV : (fun kv : Key × V => kV kv.fst) (Sum.inr kd, V.ref a) = V.str kd := rfl
        rw [hkV]
        dsimp only
        generalize upd H' T0 (.tup [.str kd, .ref a]) = H3 at *
        have ha3 := kT _ _ awd ha
        refine ⟨T0, _, rfl, SqT.of gt, rfl, _, _, rfl, _, _, rfl, rfl, ?_⟩
        refine ⟨.ref a, rfl, a, rfl, ⟨_, SqL.of ha3⟩, fun D hD' => ?_⟩
        refine lc_list (K := K) (a := a) (xs := M.flatten.map V.int) (fun c H4 => Same H3 H4 ∧ H4 D = some (.lst (((M.flatten.map istr).take c).map V.str))) ⟨same_new hD', upd_same⟩ (fun c H4 _ ⟨s3, _⟩ => SqL.of (s3 _ _ ha3)) ?_ ?_
        · rintro c x H4 hx ⟨s3, f1⟩
          obtain ⟨z, hz, rfl⟩ : ∃ z, M.flatten[c]? = some z ∧ x = .int z := by
            rw [List.getElem?_map] at hx
            cases e : M.flatten[c]? with
            | none =>
              rw [e] at hx
              cases hx
            | some z =>
              rw [e] at hx
              exact ⟨z, rfl, (Option.some.inj hx).symm⟩
          obtain ⟨z1, z2⟩ := mb z (List.mem_of_getElem? hz)
          refine ⟨rfl, ?_⟩
          refine ⟨_, rfl, z, rfl, small_log z1 z2, ?_⟩
          refine ⟨_, f1, ?_, fun a u hu => ?_, ?_⟩
          · rw [List.length_map, List.length_take, List.length_map]
            exact small1000 (by omega)
          · rw [upd_ne (ne_of_none hu hD')]
            exact s3 _ _ hu
          · rw [upd_same, take_more (l := M.flatten.map istr) (i := c) (x := istr z) (by rw [List.getElem?_map, hz]; rfl), List.map_append]
            rfl
        · rintro H4 ⟨s3, f1⟩
          rw [List.length_map, show M.flatten.length = (M.flatten.map istr).length by rw [List.length_map], List.take_length] at f1
          have g4 := s3 _ _ gT
          have f4 := s3 _ _ fT
          have k4 := kT.trans (Same.kp s3)
          refine ⟨.ref L, rfl, .inl ⟨rfl, _, SqL.of g4⟩, ?_⟩
          refine ⟨⟨_, rfl⟩, .str kd, rfl, .ref D, rfl, D, _, rfl, .inr (SqL.of f1), ?_, fun p hp => ?_⟩
          · show ([V.str "kind", .str kd] ++ ((M.flatten.map istr).map V.str ++ [])).length ≤ _
            rw [List.length_append, List.append_nil, List.length_map, List.length_map]
            show 2 + _ ≤ _
            exact szl (by omega)
          have el : ([V.str "kind", .str kd] ++ ((M.flatten.map istr).map V.str ++ [])) = (("kind" : Str) :: kd :: M.flatten.map istr).map V.str := by
            rw [List.append_nil]
            rfl
          show ∃ a p_1, ∃ ys : List Str, _
          have hp' : (upd H4 p (.lst ([V.str "kind", .str kd] ++ ((M.flatten.map istr).map V.str ++ [])))) p = some (.lst ((("kind" : Str) :: kd :: M.flatten.map istr).map V.str)) := by rw [upd_same, el]
          have s4 := same_new (o := .lst ([V.str "kind", .str kd] ++ ((M.flatten.map istr).map V.str ++ []))) hp
          refine ⟨_, p, (("kind" : Str) :: kd :: M.flatten.map istr), rfl, rfl, .inl (SqL.of hp'), join_ok (c := 14) (n := 20) (fun y hy => ?_) ?_ rfl (by decide), ?_⟩
          · rcases List.mem_cons.mp hy with rfl | hy
            · decide
            rcases List.mem_cons.mp hy with rfl | hy
            · omega
            obtain ⟨z, hz, rfl⟩ := List.mem_map.mp hy
            exact istr_len (mb z hz).1 (mb z hz).2
          · rw [List.length_cons, List.length_cons, List.length_map]
            omega
          rw [← kind_words kd (M := M) (fun z => by
            have := mo.1
            rw [z] at this
            simp at this
            omega) (fun row hr z => by
            have := (mo.2 row hr).1
            rw [z] at this
            simp at this
            omega)]
          refine ⟨L, _, _, rfl, rfl, s4 _ _ g4, ?_, _, _, _, _, _, _, rfl, fun a' u n hu => ?_, ?_, ?_⟩
          · rw [List.length_map, List.length_cons, List.length_append, List.length_take, List.length_zipWith]
            exact small1000 (by omega)
          · rw [upd_ne (ne_of_none hu hL)]
            exact s4 _ _ (k4 _ _ n hu)
          · rw [upd_ne (fun z => Lwd z.symm)]
            exact s4 _ _ f4
          · rw [upd_same, take_more (zw_at hkd eM)]
            simp only [List.map_append, List.map_cons, List.cons_append, List.append_assoc]
            rfl
      · rintro σ H' ⟨u5, u6, u7, u8, u9, u10, rfl, kH, fH, gL⟩
        refine ⟨fH, ?_⟩
        have ez2 : (List.zipWith kindL ks Ms).take kvs.length = List.zipWith kindL ks Ms := List.take_of_length_le (by rw [List.length_zipWith]; omega)
        rw [ez2] at gL
        have sE : Same H (upd H' wd (.dK kvs)) := fun a o e => by
          by_cases n : a = wd
          · rw [n, upd_same, ← hD, ← n, e]
          · rw [upd_ne n]
            exact kH _ _ n e
        have gE : (upd H' wd (.dK kvs)) L = some (.lst ((bookLines b ns ws ks Ms).map V.str)) := by
          rw [upd_ne Lwd]
          exact gL
        generalize upd H' wd (.dK kvs) = H5 at *
        have tf := text_fit ok mats
        refine ⟨⟨_, rfl⟩, .ref L, rfl, _, L, bookLines b ns ws ks Ms, rfl, rfl, .inl (SqL.of gE), join_ok (c := 254) (n := 20) fit1 fit2 rfl (by decide), ?_⟩
        refine book_made (T := T) (b := b) (m := m) (ms := ns) (ks := ks) (ws := ws) (Ms := Ms) rfl hb ok mats (Nat.le_trans tf (by decide)) fun y H6 s6 ny hY => ?_
        refine q y H6 (sE.trans s6) ?_ ⟨hY, ok, mats⟩
        cases e : H y with
        | none => rfl
        | some o =>
          rw [sE _ _ e] at ny
          cases ny
end
end OG
set_option Elab.async false
set_option linter.all false
set_option maxRecDepth 100000
set_option maxHeartbeats 8000000
namespace OG
open PySem PySem.Spec PyProof.Rows L2
theorem BkOk.names {b : Int} {m : Nat} {ms ns ks : List Str} {ws : List Int} {Ms : List (List (List Int))} (ok : BkOk b m ms ws ks Ms) (h : Nms ns m) : BkOk b m ns ws ks Ms := ⟨ok.b0, ok.b1, ok.b97, ok.m1, ok.m4, h, ok.wl, ok.w, ok.nk, ok.k1, ok.k3, ok.ml⟩
section
variable {P : Program} {w : World} {K : PySem.W.Frag} {mg : Str → Option Value} {base : Heap}
def spRenamed (T : Txt K mg) : Sp := fun vs H Q E => ∃ (x : Addr) (v : V) (z : Str) (b : Int) (m : Nat) (ms ks : List Str) (ws : List Int) (Ms : List (List (List Int))), vs = [.ref x, v] ∧ BO T H x z b m ms ks ws Ms ∧ (b = 0 ∨ b ∈ primesL) ∧ NearV H v ∧ (∀ a xs, v = .ref a → H a = some (.tup xs) → (∀ x ∈ xs, NearV H x) ∧ xs.length ≤ 20) ∧
  ((∃ (t : Addr) (ns : List Str), v = .ref t ∧ H t = some (.tup (ns.map V.str)) ∧ Nms ns m ∧ ∀ (y : Addr) (H' : Hp), Same H H' → H y = none → BO T H' y (bookText b ns ws ks Ms) b m ns ks ws Ms → Q (.ref y) H') ∨
   (¬ Good H v m ∧ ∀ d H', Same H H' → H' d = some (.xd [("value", v)]) → E (.ref T.c_BadNames) (some d) H'))
theorem ok_renamed (T : Txt K mg) (XT : TxtX K mg T) (XM : TxtM K mg T) : FnOk P w K mg base (L2.CX P w) 9 T.f_renamed T.fd_renamed ["book", "names"] (spRenamed T) := by
  refine T.F_renamed.okX sc_renamed (fun vs H Q E h => ?_) (fun cdv A outer s H vs Q E hr h => ?_)
  · obtain ⟨x, v, _, _, _, _, _, _, _, rfl, _⟩ := h
    rfl
  · obtain ⟨x, v, z, b, m, ms, ks, ws, Ms, rfl, hX, hb, hv, its, h⟩ := h
    refine ⟨_, (pss_cons (ps_if (pt_not (pt_val (pe_call (ok_are_names T) (hr.mono (by decide)) (by rfl) T.g_are_names T.F_are_names.kp T.b_are_names .nil pass0 (pa_cons (pv 1) (pa_cons (pe_callB call_len_seq (by rfl) T.n_len PySem.boot_len (pa_cons (pe_fld (pv 0) rfl) pa_nil)) pa_nil))))) (pss_one (ps_raise rfl (takes_of rfl rfl rfl rfl) (pmk_oex XM.exN XM.inN XT.tyI (ok_GateError_init T) (hr.mono (by decide)) T.b_GateError_init .nil pass0 (by rfl) T.g_BadNames (pa_cons (pv 1) pa_nil)))) pss_nil)
  (pss_cons (ps_setLc (i := 2) (own := [("mark", 3)]) (g := gName 3) (by rfl) sc_renamed.nd rfl rfl (sw_true rfl rfl rfl (by decide +kernel)) (pi_tup (pe_fld (pv 0) rfl)) (blkOk_by (own := [("mark", 3)]) (by rfl)) (fun _ _ _ _ _ => (pg_name (i := 3) sc_renamed.nd rfl (Or.inl rfl))) (fun _ _ _ _ _ => pts_nil) (fun _ _ _ _ _ => (pe_meth (pv 0) XT.cl XM.m_weight (ok_Book_weight T XT XM) (hr.mono (by decide)) T.b_Book_weight .nil passL (pa_cons (pv 3) pa_nil))))
  (pss_one (ps_ret (pe_call (ok_book_of T XT XM) (hr.mono (by decide)) (by rfl) T.g_book_of T.F_book_of.kp T.b_book_of .nil pass0 (pa_cons (pe_fld (pv 0) rfl) (pa_cons (pv 1) (pa_cons (pv 2) (pa_cons (pe_call (ok_table T XT XM) (hr.mono (by decide)) (by rfl) T.g_table T.F_table.kp T.b_table .nil pass0 (pa_cons (pv 0) (pa_cons (pe_fld (pv 0) rfl) pa_nil))) pa_nil))))))))), ?_⟩
    obtain ⟨dx, t1, t2, a1, a2, fs, kv2, hx, _, f1, f2, f3, g1, f4, g2, f5, g3, f6, g4, g5, n1, n2⟩ := id hX.obj
    obtain ⟨zk1, zk2, zk3⟩ := zipk hX.ok
    have hml := hX.ok.nm.len
    have hm4 := hX.ok.m4
    have hm1 := hX.ok.m1
    have hwl := hX.ok.wl
    rw [zk1] at g1
    have mk : ∀ {H' : Hp} {tt : Addr} {xs : List V}, Same H H' → MkT H tt xs → MkT H' tt xs := fun s ⟨o, e, dd⟩ => ⟨o, s _ _ e, dd⟩
    refine ⟨v, rfl, .ref x, rfl, x, T.c_Book, dx, fs, _, rfl, hx, XT.cl, XT.na3, f3, t1, _, rfl, .inr g1.sq, ?_⟩
    refine ⟨v, m, (by rw [List.length_map, hml]; rfl), hv, its, hm4, hm1, ?_⟩
    rcases h with ⟨t, ns, rfl, ht, hn, q⟩ | ⟨ng, q⟩
    case inr =>
      refine .inr ⟨ng, fun H1 s1 => ?_⟩
      refine ⟨_, rfl, ?_⟩
      refine iteT ?_
      exact ⟨v, rfl, oex_made XM.exN XM.noN fun d H' s' hd => q d H' (s1.trans s') hd⟩
    refine .inl ⟨⟨t, ns, rfl, ht, hn.len, hn.is, hn.nd⟩, fun H1 s1 => ?_⟩
    refine ⟨_, rfl, ?_⟩
    refine iteF ?_
    dsimp only [tNext, tSeq]
    refine ⟨.ref x, rfl, x, T.c_Book, dx, fs, _, rfl, s1 _ _ hx, XT.cl, XT.na3, f3, t1, rfl, ⟨_, (mk s1 g1).sq⟩, fun D hD => ?_⟩
    refine lc_tup (K := K) (a := t1) (xs := ms.map V.str) (fun i H' => Same H1 H' ∧ H' D = some (.lst ((ws.take i).map V.int))) ⟨same_new hD, upd_same⟩ (fun i H' _ ⟨s, _⟩ => (mk (s1.trans s) g1).sq) ?_ ?_
    · rintro i u H2 hu ⟨s2, gD⟩
      obtain ⟨mk1, hmk, rfl⟩ := str_at hu
      have hi := (List.getElem?_eq_some_iff.mp hmk).1
      have hw : ws[i]? = some ws[i] := List.getElem?_eq_getElem (by omega)
      have s12 := s1.trans s2
      refine ⟨rfl, ?_⟩
      refine ⟨.ref x, rfl, x, dx, fs, rfl, s12 _ _ hx, n1, .str mk1, rfl, x, .str mk1, z, b, _, _, rfl, nsc (Nat.le_trans (hX.ok.nm.is _ (List.mem_of_getElem? hmk)).2.1 (by decide)), (hX.same s12).obj, .inl ⟨mk1, ws[i], rfl, valV_zip hX.ok.nm.nd hmk hw, ?_⟩⟩
      refine ⟨_, gD, ?_, fun b' o e => ?_, ?_⟩
      · rw [List.length_map, List.length_take]
        exact small1000 (by omega)
      · rw [upd_ne (ne_of_none e hD)]
        exact s2 _ _ e
      · rw [upd_same, take_more hw, List.map_append]
        rfl
    · rintro H2 ⟨s2, gD⟩
      rw [List.length_map, hml, ← hwl, List.take_length] at gD
      have s12 := s1.trans s2
      refine ⟨.ref x, rfl, x, T.c_Book, dx, fs, _, rfl, s12 _ _ hx, XT.cl, XT.na2, f2, .ref t, rfl, .ref D, rfl, .ref x, rfl, .ref x, rfl, x, T.c_Book, dx, fs, _, rfl, s12 _ _ hx, XT.cl, XT.na3, f3, ?_⟩
      refine ⟨x, t1, z, b, m, ms, ks, ws, Ms, rfl, hX.same s12, mk s12 g1, fun d kvs H3 s3 gd nd hK => ?_⟩
      refine ⟨t, D, d, b, m, ns, ks, ws, Ms, kvs, rfl, SqT.of (s3 _ _ (s12 _ _ ht)), s3 _ _ gD, gd, hK, hX.ok.names hn, hX.mat, hb, fun y H4 s4 ny hY => ?_⟩
      have s14 := (s12.trans s3).trans s4
      refine q y H4 s14 ?_ hY
      cases e : H y with
      | none => rfl
      | some o =>
        rw [s3 _ _ (s12 _ _ e)] at ny
        cases ny
/-- == of a Book -/
def spEqB (T : Txt K mg) : Sp := fun vs H Q _ => ∃ (x y : Addr) (z z' : Str) (b b' : Int) (mw mw' : List (Str × Int)) (kw kw' : List (Str × List Int)), vs = [.ref x, .ref y] ∧ ObjAt T H x z b mw kw ∧ ObjAt T H y z' b' mw' kw' ∧ Q (.bl (decide (z = z'))) H
theorem ok_Book_eq (T : Txt K mg) (XT : TxtX K mg T) (XM : TxtM K mg T) : FnOk P w K mg base (L2.CX P w) 1 T.f_Book_eq T.fd_Book_eq ["self", "other"] (spEqB T) := by
  refine T.F_Book_eq.okX sc_Book_eq (fun vs H Q E h => ?_) (fun cdv A outer s H vs Q E hr h => ?_)
  · obtain ⟨x, y, _, _, _, _, _, _, _, _, rfl, _⟩ := h
    rfl
  · obtain ⟨x, y, z, z', b, b', mw, mw', kw, kw', rfl, hX, hY, q⟩ := h
    refine ⟨_, (pss_one (ps_ret (pe_and (pe_callB call_isi (by rfl) T.n_isinstance (by decide +kernel) (pa_cons (pv 1) (pa_cons (C8.pe_gc (v := .ref T.c_Book) (by rfl) ⟨_, T.g_Book, rfl⟩) pa_nil))) (pe_one (pe_cmpR op_eq (pe_fld (pv 0) rfl) (pe_fld (pv 1) rfl) (nomark _)))))), ?_⟩
    obtain ⟨dx, t1, t2, a1, a2, fs, kv2, hx, _, f1, f2, f3, g1, f4, g2, f5, g3, f6, g4, g5, n1, n2⟩ := id hX
    obtain ⟨dy, t1', t2', a1', a2', fs', kv2', hy, _, f1', f2', f3', g1', f4', g2', f5', g3', f6', g4', g5', n1', n2'⟩ := id hY
    refine ⟨.ref y, rfl, _, _, _, _, true, rfl, .own T.c_Book, .base (.ins hy XT.cl XT.ca XT.ec.hn XT.ec.ht XT.ob), XT.kb, ?_⟩
    refine ⟨_, rfl, ?_⟩
    refine iteT ?_
    refine ⟨.ref x, rfl, x, T.c_Book, dx, fs, _, rfl, hx, XT.cl, XT.na1, f1, .ref y, rfl, y, T.c_Book, dy, fs', _, rfl, hy, XT.cl, XT.na1, f1', rfl, ?_⟩
    rw [show decide (V.str z = V.str z') = decide (z = z') from decide_eq_decide.mpr ⟨fun h => V.str.inj h, fun h => by rw [h]⟩]
    exact q
end
end OG
set_option Elab.async false
set_option linter.all false
set_option maxRecDepth 100000
set_option maxHeartbeats 8000000
namespace OG
open PySem PySem.Spec PyProof.Rows L2
theorem tab_put {b : Int} {H : Hp} {t d : Addr} {m : Nat} {M : List (List Int)} {o o' : HO} (h : Tab b H t m M) (hd : H d = some o) (n : ∀ xs, o ≠ .tup xs) : Tab b (upd H d o') t m M := by
  obtain ⟨rs, l1, l2, l3, l4, l5⟩ := h
  have ne : ∀ {a : Addr} {xs : List V}, H a = some (.tup xs) → a ≠ d := fun {a xs} e z => by
    rw [z, hd] at e
    exact n _ (Option.some.inj e)
  refine ⟨rs, by rw [upd_ne (ne l1)]; exact l1, l2, l3, fun j r hr => ?_, l5⟩
  obtain ⟨row, p1, p2⟩ := l4 j r hr
  exact ⟨row, p1, by rw [upd_ne (ne p2)]; exact p2⟩
section
variable {P : Program} {w : World} {K : PySem.W.Frag} {mg : Str → Option Value} {base : Heap}
/-- the same book with other names -/
def spPick3 : Sp := fun vs H Q _ => ∃ (o pl tn tw : Addr) (b : Int) (m : Nat) (ms ks nn : List Str) (ws : List Int) (Ms : List (List (List Int))), vs = [.ref o, .ref pl, .ref tn, .ref tw] ∧ BookAt H o b m ms ws ks Ms ∧ BkOk b m ms ws ks Ms ∧
  H pl = some (.lst ((List.range m).map fun (n : Nat) => V.int (n : Int))) ∧ H tn = some (.tup (nn.map V.str)) ∧ H tw = some (.tup (ws.map V.int)) ∧
  ∀ (q : Addr) (H' : Hp), Same H H' → H q = none → BookAt H' q b m nn ws ks Ms → Q (.ref q) H'
theorem ok_l_book_picked (T : Txt K mg) : FnOk P w K mg base CX0 1 T.f_l_book_picked T.fd_l_book_picked ["own", "places", "names", "weights"] (spPick3) := by
  refine T.F_l_book_picked.ok sc_l_book_picked (fun vs H Q E h => ?_) (fun cdv A outer s H vs Q E hr h => ?_)
  · obtain ⟨o, pl, tn, tw, b, m, ms, ks, nn, ws, Ms, rfl, _⟩ := h
    rfl
  · obtain ⟨o, pl, tn, wa, b, m, ms, ks, nn, ws, Ms, rfl, hB, ok, hpl0, htn0, hwa0, q⟩ := h
    refine ⟨_, (pss_cons (ps_set (i := 4) sc_l_book_picked.nd rfl (Or.inl rfl) pe_dnewK)
  (pss_cons (ps_for PassesOwn.never rfl (pi_tup (pe_dget (hu_of hr) (pv 0) pe_str (fun _ _ => rfl))) (pg_name (i := 5) sc_l_book_picked.nd rfl (Or.inr rfl)) (pss_one (ps_dput (hu_of hr) (pv 4) (pv 5) (pe_callTy call_tuple_of (by rfl) T.n_tuple (by decide +kernel) (pa_cons (pe_lc (own := [("a", 6)]) (g := gName 6) (by rfl) sc_l_book_picked.nd (pi_list (pv 1)) (blkOk_by (own := [("a", 6)]) (by rfl)) (fun _ _ _ _ _ => (pg_name (i := 6) sc_l_book_picked.nd rfl (Or.inr rfl))) (fun _ _ _ _ _ => pts_nil) (fun _ _ _ _ _ => (pe_callTy (call_tuple_ofK K) (by rfl) T.n_tuple (by decide +kernel) (pa_cons (pe_lc (own := [("b", 7)]) (g := gName 7) (by rfl) sc_l_book_picked.nd (pi_listK K (pv 1)) (blkOk_by (own := [("b", 7)]) (by rfl)) (fun _ _ _ _ _ => (pg_name (i := 7) sc_l_book_picked.nd rfl (Or.inl rfl))) (fun _ _ _ _ _ => pts_nil) (fun _ _ _ _ _ => (pe_ix (ix_tupK K) (pe_ix (ix_tupK K) (pe_dget (hu_of hr) (pe_dget (hu_of hr) (pv 0) pe_str (fun _ _ => rfl)) (pv 5) (fun _ _ => rfl)) (pv 6) (fun _ _ => rfl)) (pv 7) (fun _ _ => rfl)))) pa_nil)))) pa_nil)) rfl)))
  (pss_one (ps_ret (pe_disp (pps_cons pe_str (pe_dget (hu_of hr) (pv 0) pe_str (fun _ _ => rfl)) (pps_cons pe_str (pe_callTy call_tuple_of (by rfl) T.n_tuple (by decide +kernel) (pa_cons (pv 2) pa_nil)) (pps_cons pe_str (pe_callTy call_tuple_of (by rfl) T.n_tuple (by decide +kernel) (pa_cons (pv 3) pa_nil)) (pps_cons pe_str (pe_dget (hu_of hr) (pv 0) pe_str (fun _ _ => rfl)) (pps_cons pe_str (pv 4) pps_nil))))) (by rfl) (by rfl) (fun z => by cases z) (by decide)))))), ?_⟩
    have hm4 := ok.m4
    have hm1 := ok.m1
    have hk3 := ok.k3
    have hml := ok.ml
    have lr : ((List.range m).map fun (n : Nat) => V.int (n : Int)).length = m := by rw [List.length_map, List.length_range]
    obtain ⟨kvs, tm, tw, tk, td, hO, hl10, v1, v2, hT2, v3, hT3, v4, hT4, v5, tkvs, hTd, tnd, tln, tabs⟩ := id hB
    refine fun d hd => ?_
    have s3 := same_new (o := .dK []) hd
    have hd3 : (upd H d (.dK [])) d = some (.dK []) := upd_same
    generalize upd H d (.dK []) = H0 at *
    refine ⟨.ref o, rfl, o, _, rfl, dget (s3 _ _ hO) v4, tk, rfl, ⟨_, SqT.of (s3 _ _ hT4)⟩, ?_⟩
    refine for_tup (K := K) (a := tk) (xs := ks.map V.str) (fun i σ H' => ∃ (v5 v6 v7 : Option V) (tkv : List (Key × V)), σ = [some (.ref o), some (.ref pl), some (.ref tn), some (.ref wa), some (.ref d), v5, v6, v7] ∧ Same H H' ∧
        H' d = some (.dK tkv) ∧ tkv.length ≤ i ∧ (tkv.map (·.1)).Nodup ∧ ∀ (j : Nat) (k : Str), j < i → ks[j]? = some k → ∃ (t : Addr) (M : List (List Int)), valV tkv (.inr k) = some (.ref t) ∧ Ms[j]? = some M ∧ Tab b H' t m M)
      ⟨none, none, none, [], rfl, s3, hd3, Nat.le_refl _, List.nodup_nil, fun j k h => absurd h (Nat.not_lt_zero _)⟩ (fun i σ H' _ ⟨_, _, _, _, _, s, _⟩ => SqT.of (s _ _ hT4)) ?_ ?_
    · rintro i u σ H' hu ⟨u5, u6, u7, tkv, rfl, s, h2, h3, hnd, h5⟩
      obtain ⟨k, hk, rfl⟩ := str_at hu
      obtain ⟨t, M, e1, e2, e3⟩ := tabs i k hk
      have hik : i < ks.length := (List.getElem?_eq_some_iff.mp hk).1
      obtain ⟨rs, y1, y2, y3, y4, y5⟩ := id e3
      have h1 := s _ _ hpl0
      refine ⟨.ref pl, rfl, pl, rfl, ⟨_, SqL.of h1⟩, fun D hD => ?_⟩
      refine lc_list (K := K) (a := pl) (xs := (List.range m).map fun (n : Nat) => V.int (n : Int)) (fun a H2 => Same H' H2 ∧ ∃ qs : List Addr, H2 D = some (.lst (qs.map V.ref)) ∧ qs.length = a ∧
          ∀ (j : Nat) (q : Addr), qs[j]? = some q → ∃ row : List Int, M[j]? = some row ∧ H2 q = some (.tup (row.map V.int)))
        ⟨same_new hD, [], upd_same, rfl, fun j q h => by simp at h⟩ (fun a H2 _ ⟨s, _⟩ => SqL.of (s _ _ h1)) ?_ ?_
      · rintro a x H3 hw ⟨sa, qs, f1, f2, f4⟩
        obtain ⟨ham, rfl⟩ := range_at hw
        obtain ⟨r, hr⟩ : ∃ r, rs[a]? = some r := ⟨_, List.getElem?_eq_getElem (by omega)⟩
        obtain ⟨row, r1, r2⟩ := y4 a r hr
        obtain ⟨rl, rb⟩ := y5 row (List.mem_of_getElem? r1)
        refine ⟨rfl, ?_⟩
        refine ⟨.ref pl, rfl, pl, rfl, ⟨_, SqL.of (sa _ _ h1)⟩, fun D2 hD2 => ?_⟩
        refine lc_list (K := K) (a := pl) (xs := (List.range m).map fun (n : Nat) => V.int (n : Int)) (fun c H4 => Same H3 H4 ∧ H4 D2 = some (.lst ((row.take c).map V.int)))
          ⟨same_new hD2, upd_same⟩ (fun c H4 _ ⟨s4, _⟩ => SqL.of (s4 _ _ (sa _ _ h1))) ?_ ?_
        · rintro c x H4 hw ⟨s4, g1⟩
          obtain ⟨hcm, rfl⟩ := range_at hw
          have sH := ((s.trans sa).trans s4)
          have hz : row[c]? = some row[c] := List.getElem?_eq_getElem (by omega)
          refine ⟨rfl, ?_⟩
          refine ⟨.ref o, rfl, o, _, rfl, dget (sH _ _ hO) v5, .str k, rfl, td, _, rfl, dget (sH _ _ hTd) e1, ?_⟩
          refine ⟨.int a, rfl, t, _, (a : Int), _, rfl, rfl, SqT.of (sH _ _ y1), atI_nat (j := a) (by rw [List.getElem?_map, hr]; rfl), ?_⟩
          refine ⟨.int c, rfl, r, _, (c : Int), _, rfl, rfl, SqT.of (sH _ _ r2), atI_nat (j := c) (by rw [List.getElem?_map, hz]; rfl), ?_⟩
          refine ⟨_, g1, ?_, fun b' o' ho => ?_, ?_⟩
          · rw [List.length_map, List.length_take]
            exact small1000 (by omega)
          · rw [upd_ne (ne_of_none ho hD2)]
            exact s4 _ _ ho
          · rw [upd_same, take_more hz, List.map_append]
            rfl
        · rintro H4 ⟨s4, g1⟩
          rw [lr, ← rl, List.take_length] at g1
          refine ⟨D2, _, rfl, .inl ⟨SqL.of g1, fun t2 ht2 => ?_⟩⟩
          have s5 := s4.trans (same_new (o := .tup (row.map V.int)) ht2)
          have gt : (upd H4 t2 (.tup (row.map V.int))) t2 = some (.tup (row.map V.int)) := upd_same
          generalize upd H4 t2 (.tup (row.map V.int)) = H5 at *
          have gD := s5 _ _ f1
          have nDt : t2 ≠ D := fun z => by
            rw [z, gD] at gt
            cases gt
          refine ⟨_, gD, by rw [List.length_map]; exact small1000 (by omega), fun b' o' ho => ?_, qs ++ [t2], ?_, by rw [List.length_append, f2]; rfl, fun j q' hq => ?_⟩
          · rw [upd_ne (ne_of_none ho hD)]
            exact s5 _ _ (sa _ _ ho)
          · rw [upd_same, List.map_append]
            rfl
          · by_cases hj : j < qs.length
            · rw [List.getElem?_append_left hj] at hq
              obtain ⟨row', k2, k3⟩ := f4 j q' hq
              exact ⟨row', k2, by rw [upd_ne (fun z => by rw [z, f1] at k3; cases k3)]; exact s5 _ _ k3⟩
            · rw [List.getElem?_append_right (by omega)] at hq
              have hj0 : j - qs.length = 0 := by
                have := (List.getElem?_eq_some_iff.mp hq).1
                simp only [List.length_singleton] at this
                omega
              rw [hj0] at hq
              have eq : t2 = q' := Option.some.inj hq
              subst eq
              exact ⟨row, by rw [show j = a by omega]; exact r1, by rw [upd_ne nDt]; exact gt⟩
      · rintro H3 ⟨sa, qs, f1, f2, f4⟩
        rw [lr] at f2
        refine ⟨D, _, rfl, .inl ⟨SqL.of f1, fun t2 ht2 => ?_⟩⟩
        have s6 := sa.trans (same_new (o := .tup (qs.map V.ref)) ht2)
        have tabN : Tab b (upd H3 t2 (.tup (qs.map V.ref))) t2 m M := ⟨qs, upd_same, f2, y3, fun j r hr => by
          obtain ⟨row, k2, k3⟩ := f4 j r hr
          exact ⟨row, k2, same_new ht2 _ _ k3⟩, y5⟩
        have hdn := s6 _ _ h2
        generalize upd H3 t2 (.tup (qs.map V.ref)) = H4 at *
        refine ⟨.ref d, rfl, .str k, rfl, d, _, rfl, DPut.k (k := .inr k) hdn (small1000 (by omega)), ?_⟩
        refine ⟨_, _, _, putK tkv (.inr k) (.ref t2), rfl, fun a z hz => ?_, upd_same, ?_, putK_nd hnd, fun j k' hj hk' => ?_⟩
        · rw [upd_ne (ne_of_none hz hd)]
          exact s6 _ _ (s _ _ hz)
        · unfold putK
          split
          · rw [List.length_map]
            omega
          · rw [List.length_append]
            show tkv.length + 1 ≤ i + 1
            omega
        · by_cases hji : j < i
          · obtain ⟨t', M', k1, k2, k3⟩ := h5 j k' hji hk'
            have nkk : ¬ (Sum.inr k' : Key) = Sum.inr k := fun z => by
              have z := Sum.inr.inj z
              rw [z] at hk'
              have := (List.getElem?_inj (show j < ks.length by omega) ok.nk.nd).mp (hk'.trans hk.symm)
              omega
            exact ⟨t', M', by rw [valV_put, if_neg nkk]; exact k1, k2, tab_put (k3.same s6) hdn fun xs z => by cases z⟩
          · have eji : j = i := by omega
            subst eji
            rw [hk] at hk'
            have ek := Option.some.inj hk'
            subst ek
            exact ⟨t2, M, by rw [valV_put, if_pos rfl], e2, tab_put tabN hdn fun xs z => by cases z⟩
    · rintro σ H' ⟨u5, u6, u7, tkv, rfl, s, h2, h3, hnd, h5⟩
      rw [List.length_map] at h3 h5
      refine fun q' hq' => ?_
      have sq := same_new (o := .dK []) hq'
      have sH := s.trans sq
      refine ⟨.ref o, rfl, o, _, rfl, dget (sH _ _ hO) v1, ?_⟩
      refine ⟨.ref tn, rfl, tn, _, rfl, .inr ⟨SqT.of (sH _ _ htn0), ?_⟩⟩
      refine ⟨.ref wa, rfl, wa, _, rfl, .inr ⟨SqT.of (sH _ _ hwa0), ?_⟩⟩
      refine ⟨.ref o, rfl, o, _, rfl, dget (sH _ _ hO) v4, ?_⟩
      refine ⟨.ref d, rfl, ?_⟩
      refine ⟨upd_same, dict5 b tn wa tk d, rfl, (by show 5 ≤ 15; decide), ?_⟩
      rw [merge0 (dict5_nd b tn wa tk d)]
      have sF' : Same H' (upd (upd H' q' (.dK [])) q' (.dK (dict5 b tn wa tk d))) := fun a z hz => by
        have n : a ≠ q' := ne_of_none hz hq'
        rw [upd_ne n]
        exact sq _ _ hz
      have sF := s.trans sF'
      obtain ⟨w1, w2, w3, w4, w5⟩ := dict5_at b tn wa tk d
      refine q q' _ sF (s.free hq') ⟨_, tn, wa, tk, d, upd_same, (by show 5 ≤ 10; decide), w1, w2, sF _ _ htn0, w3, sF _ _ hwa0, w4, sF _ _ hT4, w5, tkv, sF' _ _ h2, hnd, Nat.le_trans h3 (Nat.le_trans hk3 (by decide)), fun i k hk => ?_⟩
      obtain ⟨t, M, a1, a2, a3⟩ := h5 i k (List.getElem?_eq_some_iff.mp hk).1 hk
      exact ⟨t, M, a1, a2, a3.same sF'⟩
end
end OG
set_option Elab.async false
set_option linter.all false
set_option maxRecDepth 100000
set_option maxHeartbeats 4000000
namespace OGX
open PySem PySem.Spec PyProof.Rows L2 LamX
section
variable {X : Cx} {pins : List (Addr × Obj)} {σ : L2.St} {H HZ : Hp} {s s1 : Shared}
/-- x() in the def that got the lambda, its slots told: what is let out is told of these very slots -/
theorem pe_actS {CXg : CXT} {Eg : XK} {Ng : List Str} {qg : Str} {sg : Scope} {g f c' : Addr} {cdg pm ctv : Value} {params : Arguments} {body : Expr} {scope : Scope} {k i : Nat} {a : Str} {pn : List (Addr × Obj)} {xe : Value → Shared → Prop} {W : WX} {E : XK} {tb : TE} {p1 p2 : Pos} {σ0 : L2.St}
    (I : Inv X pins σ H s) (L : LamS X.env.scope scope) (hf : s.heap.get? f = some (PySem.W.kla_obj "<lambda>" (X.env.qual ++ "<lambda>") params body scope (cloFrom X.env.cells scope.names []) pm c' ctv)) (hfn : H f = none) (hfr : f ∉ frs X.stack)
    (hbind : bindArgs (PySem.W.kla_fn "<lambda>" (X.env.qual ++ "<lambda>") params body scope (cloFrom X.env.cells scope.names []) pm (.ref c') ctv) ⟨[], []⟩ = pure [])
    (tk : Takes ((cxOf CXg X.prog X.w X.K X.mg X.base Ng qg sg g cdg X.A X.stack s H Eg).tr pn xe) W) (hW : ∀ cls d H', E cls d H' → W cls d σ0 H') (hr : Room (k + 1) (X.A.deeper (envOfC qg sg s.heap.objs.size g cdg)))
    (hbody : ∀ (A : Around) (outer : List Env) (s : Shared) (H : Hp), Room k (A.deeper (lamEnv X scope s.heap.objs.size f c')) → PE (lamCx X A outer s H E scope f c') body tb)
    (hN : Ng[i]? = some a) (hv : Vis sg a) (hd : (a == ("__debug__" : Str)) = false := by decide) (hcd : (a == ("__classdict__" : Str)) = false := by decide) :
    PE ((cxOf CXg X.prog X.w X.K X.mg X.base Ng qg sg g cdg X.A X.stack s H Eg).tr pn xe) (.Call (.Name a p1) [] [] p2)
      (fun σZ HZ Q => σZ = σ0 ∧ σZ[i]? = some (some (.ref f)) ∧ HZ c' = some (CodeO c' (X.env.qual ++ "<lambda>")) ∧ tb σ HZ Q) := by
  refine ⟨fun pinsZ sZ σZ HZ Q IZ h => ?_⟩
  obtain ⟨e0, hs, hc, ht⟩ := h
  subst e0
  refine wpAny_Call_Name_kw (thn ((pe_var (pos := p1) (i := i) hN hv hd hcd).run pinsZ sZ σZ HZ (fun v H1 => v = .ref f ∧ H1 = HZ) IZ ⟨.ref f, hs, rfl, rfl⟩) fun u s1 ⟨v, H1, I1, r1, q1⟩ => ?_)
  obtain ⟨ev, eH⟩ := q1
  subst ev
  rw [eH] at I1
  obtain rfl : u = Value.ref f := r1
  have of1 : s1.heap.get? f = some (PySem.W.kla_obj "<lambda>" (X.env.qual ++ "<lambda>") params body scope (cloFrom X.env.cells scope.names []) pm c' ctv) := I1.base.keep f _ hf hfn hfr (fun z => nomatch (show f ∈ ([] : List Addr) from z))
  refine PySem.W.callWith_F0 ⟨_, _, _, _, of1⟩ ?_
  have un : Un (frs X.stack) [] H HZ s.heap s1.heap := I1.base
  obtain ⟨⟨oc, vs, t, hoc, hdc, hvc⟩, _, _⟩ := I1.hok c' _ hc
  have rc : codeAny (model X.prog X.w) (X.A.deeper (envOfC qg sg s.heap.objs.size g cdg)) (.call (.ref f) ⟨[], []⟩) (CR (L2.CX X.prog X.w) (envOfC qg sg s.heap.objs.size g cdg :: X.stack) X.prog X.w HZ s1 Q E) s1 := by
    refine PySem.W.kla_callFunE hr.depth of1 rfl L.co L.gen rfl ⟨c', oc, vs, t, rfl, hoc, hdc, hvc⟩ ?_
    rw [hbind]
    refine wpAny_pure (wpAny_newFunctionEnv (fun y hy => (L.own y hy).2) (fun y hy => absurd hy (by simp)) (fun h₁ hns hsb => ⟨I1.nolimit.fresh _ hsb, ?_⟩) L.kind)
    show codeAny _ _ (.expr body (lamEnv X scope s1.heap.objs.size f c')) _ _
    have kp : ∀ b o, s1.heap.get? b = some o → h₁.get? b = some o := fun b o e => hsb.extBut b o (Nat.ne_of_lt (Heap.lt_size e)) (Heap.get?_push_of_some _ e)
    have J : Inv (lamCx X (X.A.deeper (envOfC qg sg s.heap.objs.size g cdg)) (envOfC qg sg s.heap.objs.size g cdg :: X.stack) s1 HZ E scope f c') [] σ HZ { s1 with heap := h₁, toks := s1.toks + ([] : List (Str × Value)).length } :=
      lam_start2 I L I1.env0 hr.hd un hns kp
    refine PySem.W.kla_codeExpr (wpAny_mono ((hbody _ _ s1 HZ (hr.deeper _)).run [] _ _ HZ Q J ht) (fun v s' hq => ?_) fun e s' hq => hq)
    obtain ⟨w', H', J', rv, q⟩ := hq
    exact ⟨w', H', J'.os, J'.bare, J'.base, J'.hok, rv, q⟩
  refine wpAny_call (codeAny_mono rc fun r s' hq => ?_)
  cases r with
  | error e => exact tk e s' (XE.of_call I1 hW hq)
  | ok fl =>
    cases fl with
    | ret u => exact I1.after hq
    | next => exact False.elim hq
    | brk => exact False.elim hq
    | cont => exact False.elim hq
end
def GivesToS (X : Cx) (Ng : List Str) (x : Str) (sg : Scope) (g : Addr) (cdg : Value) (bg : List Stmt) (a : Str) (q : Str) (TT : (XK → Hp → VK → Prop) → Hp → VK → Prop) : Prop :=
  ∀ (f c' : Addr) (s : Shared) (H : Hp) (Q : VK) (tl : XK → Hp → VK → Prop),
    (∀ (W : WX) (pn : List (Addr × Obj)) (xe : Value → Shared → Prop) (E : XK) (σ0 : L2.St) (p1 p2 : Pos), Takes ((cxOf C8.CX0 X.prog X.w X.K X.mg X.base Ng x sg g cdg X.A X.stack s H C8.E0).tr pn xe) W → (∀ cls d H', E cls d H' → W cls d σ0 H') →
      PE ((cxOf C8.CX0 X.prog X.w X.K X.mg X.base Ng x sg g cdg X.A X.stack s H C8.E0).tr pn xe) (.Call (.Name a p1) [] [] p2) (fun σZ HZ Q => σZ = σ0 ∧ σZ[0]? = some (some (.ref f)) ∧ HZ c' = some (CodeO c' q) ∧ tl E HZ Q)) →
    H c' = some (CodeO c' q) → TT tl H Q →
    ∃ t, PSs (cxOf C8.CX0 X.prog X.w X.K X.mg X.base Ng x sg g cdg X.A X.stack s H C8.E0).nox bg t ∧ t { nx := fun _ H' => Q .non H', rt := Q } (L2.start Ng [.ref f]) H
section
variable {X : Cx}
/-- x(lambda: body) -/
theorem pe_lamcallS {T : List (Addr × Str)} {TT : (XK → Hp → VK → Prop) → Hp → VK → Prop} {x a : Str} {g c P : Addr} {k : Nat} {pg : Arguments} {bg : List Stmt} {sg : Scope} {dV kV doc pm cdv ct oc : Value} {an od : Option Addr} {osl : Array (Option Value)} {Ng : List Str}
    {params : Arguments} {body : Expr} {scope : Scope} {t : XK → TE} {p lpos pos : Pos} (hg : Gl X x) (hm : X.mg x = some (.ref g)) (hk : PySem.W.keepIn X.K (.ref g) = true)
    (lk : X.K.lookup g = some ⟨oc, od, .func (PySem.W.fnOf x x pg bg sg dV kV doc pm an cdv ct), osl⟩) (hcg : PySem.W.codeIn X.K cdv x = true) (hb : L2.Binds X.K (PySem.W.fnOf x x pg bg sg dV kV doc pm an cdv ct) [a] []) (Sg : FnScope Ng [a] sg) (hNg : Ng[0]? = some a) (hva : Vis sg a)
    (hG : GivesToS X Ng x sg g cdv bg a (X.env.qual ++ "<lambda>") TT)
    (TB : TabB X.base X.mg c P) (hcode : X.env.code = .ref c) (hmT : (P, X.env.qual ++ "<lambda>") ∈ T) (hu : ∀ p ∈ T, p.1 = P → p.2 = X.env.qual ++ "<lambda>") (hr : Room (k + 2) X.A) (L : LamS X.env.scope scope) (hdef : defaultsOf params X.env = ([], []))
    (hbind : ∀ (q : Str) (cl : List (Str × Addr)) (pm cv ctv : Value), bindArgs (PySem.W.kla_fn "<lambda>" q params body scope cl pm cv ctv) ⟨[], []⟩ = pure [])
    (hbody : ∀ (A : Around) (outer : List Env) (s : Shared) (H : Hp) (E : XK) (f c' : Addr), Room k (A.deeper (lamEnv X scope s.heap.objs.size f c')) → PE (lamCx X A outer s H E scope f c') body (t E))
    (hdb : (x == ("__debug__" : Str)) = false := by decide) (hd : (a == ("__debug__" : Str)) = false := by decide) (hcd : (a == ("__classdict__" : Str)) = false := by decide) :
    PE X (.Call (.Name x p) [.Lambda params body scope lpos] [] pos) (tLam T TT t) := by
  refine ⟨fun pins s σ H Q I h => ?_⟩
  obtain ⟨hT, h⟩ := h
  refine wpAny_Call_Name_kw (ld_glob I hg hm ?_ hdb)
  refine PySem.W.callWith_K (h₀ := X.base) I.ok.mod.kin hk ?_ (by rfl) (by rfl)
  show wpAny _ _ (spliced ((false, eval (.Lambda params body scope lpos) X.env) :: backTo pos (starEach [] X.env))) _ _ s
  refine Calls.spliced_cons (lam_make2 I TB hcode hmT hu hT hdef (L.has I.ok) fun f c' pm' ctv H1 s' I1 eN T1 hf hfn hfr hco => ?_)
  refine Calls.spliced_nil ⟨I1.kIn, ?_⟩
  have rc : codeAny (model X.prog X.w) X.A (.call (.ref g) ⟨[.ref f], []⟩) (CR C8.CX0 X.stack X.prog X.w H1 s' Q C8.E0) s' := by
    refine run_ofS (N := Ng) (ps := [a]) (us := [.ref f]) (vs := [.ref f]) lk hcg Sg hr I1.env0 (hb s' [.ref f] I1.kIn rfl) (.cons rfl .nil) rfl fun hr' => ?_
    obtain ⟨t', ht', hq'⟩ := hG f c' s' H1 Q (fun E H' Q' => t E σ H' Q') (fun W pn xe E σ0 p1 p2 tk hW => pe_actS (i := 0) I1 L hf hfn hfr (hbind _ _ _ _ _) tk hW hr' (fun A outer s H hr2 => hbody A outer s H E f c' hr2) hNg hva hd hcd) hco (h H1 eN T1)
    exact ⟨t', ht'.nox, hq'⟩
  refine wpAny_call (codeAny_mono rc fun r s2 hq => ?_)
  cases r with
  | error e => exact (show False from hq).elim
  | ok fl =>
    cases fl with
    | ret u => exact I1.after hq
    | next => exact False.elim hq
    | brk => exact False.elim hq
    | cont => exact False.elim hq
end
end OGX
set_option Elab.async false
set_option linter.all false
set_option maxRecDepth 100000
set_option maxHeartbeats 4000000
namespace OGX
open PySem PySem.Spec PyProof.Rows L2 LamX
/-! a lambda handed through two calls -/
theorem un_in {fs : List Addr} {l : Addr} {H H1 H2 : Hp} {h h1 h2 : Heap} (a : Un fs [] H H1 h h1) (b : Un (l :: fs) [] H1 H2 h1 h2) (hl : h.objs.size ≤ l) : Un fs [] H H2 h h2 where
  keep := fun c ob q n hc hx => b.keep c ob (a.keep c ob q n hc hx) (a.free c ob q n hx) (fun z => by
    rcases List.mem_cons.mp z with z | z
    · rw [z] at q
      exact Nat.lt_irrefl _ (Nat.lt_of_lt_of_le (Heap.lt_size q) hl)
    · exact hc z) hx
  slot := fun c ob q n hc hx => by
    obtain ⟨sl, e1⟩ := a.slot c ob q n hc hx
    obtain ⟨sl', e2⟩ := b.any e1 (a.free c ob q n hx) hx
    exact ⟨sl', e2⟩
  free := fun c ob q n hx => by
    obtain ⟨o', e1⟩ := a.there c ob q hx
    exact b.free c o' e1 (a.free c ob q n hx) hx
  there := fun c ob q hx => by
    obtain ⟨o', e1⟩ := a.there c ob q hx
    exact b.there c o' e1 hx
  tups := fun c xs q => b.tups c xs (a.tups c xs q)
  frzs := fun c ob xs q => b.frzs c ob xs (a.frzs c ob xs q)
  tbls := fun c ps q => by
    obtain ⟨m1, e1⟩ := a.tbls c ps q
    obtain ⟨m2, e2⟩ := b.tbls c _ e1
    exact ⟨m1 ++ m2, by rw [e2, Array.append_assoc]⟩
/-- all states of a context lie behind this one of the maker's -/
def Reach (X : Cx) (H : Hp) (s : Shared) (Z : Cx) : Prop := ∀ (pn : List (Addr × Obj)) (xe : Value → Shared → Prop) (pinsZ : List (Addr × Obj)) (σZ : L2.St) (HZ : Hp) (sZ : Shared), Inv (Z.tr pn xe) pinsZ σZ HZ sZ → Un (frs X.stack) [] H HZ s.heap sZ.heap
theorem reach1 {CXg : CXT} {X : Cx} {Ng : List Str} {qg : Str} {sg : Scope} {g : Addr} {cdg : Value} {s : Shared} {H : Hp} {Eg : XK} : Reach X H s (cxOf CXg X.prog X.w X.K X.mg X.base Ng qg sg g cdg X.A X.stack s H Eg) := fun _ _ _ _ _ _ I => I.base
theorem reach2 {CXh : CXT} {X : Cx} {P : Program} {w : World} {K : PySem.W.Frag} {mg : Str → Option Value} {base : Heap} {Nh : List Str} {qg qh : Str} {sg sh : Scope} {g gh : Addr} {cdg cdh : Value} {Ah : Around} {outer : List Env} {s s0 s1 : Shared} {H0 H1 : Hp} {Eh : XK}
    (hs : X.stack = outer) (un : Un (frs X.stack) [] H0 H1 s0.heap s1.heap) (hl : s0.heap.objs.size ≤ s.heap.objs.size) : Reach X H0 s0 (cxOf CXh P w K mg base Nh qh sh gh cdh Ah (envOfC qg sg s.heap.objs.size g cdg :: outer) s1 H1 Eh) := fun _ _ _ _ _ _ I => by
  have b : Un (frs (envOfC qg sg s.heap.objs.size g cdg :: outer)) [] H1 _ s1.heap _ := I.base
  have e : frs (envOfC qg sg s.heap.objs.size g cdg :: outer) = s.heap.objs.size :: frs outer := rfl
  rw [e, ← hs] at b
  exact un_in un b hl
section
variable {X : Cx} {pins : List (Addr × Obj)} {σ : L2.St} {H HZ : Hp} {s s1 : Shared}
/-- x() in a def, however deep, that got the lambda -/
theorem pe_actR {CXg : CXT} {Eg : XK} {Ng : List Str} {qg : Str} {sg : Scope} {g f c' : Addr} {cdg pm ctv : Value} {params : Arguments} {body : Expr} {scope : Scope} {k i : Nat} {a : Str} {pn : List (Addr × Obj)} {xe : Value → Shared → Prop} {W : WX} {E : XK} {tb : TE} {p1 p2 : Pos} {σ0 : L2.St} {Az : Around} {oz : List Env} {sz : Shared} {Hz : Hp}
    (I : Inv X pins σ H s) (L : LamS X.env.scope scope) (hf : s.heap.get? f = some (PySem.W.kla_obj "<lambda>" (X.env.qual ++ "<lambda>") params body scope (cloFrom X.env.cells scope.names []) pm c' ctv)) (hfn : H f = none) (hfr : f ∉ frs X.stack)
    (hbind : bindArgs (PySem.W.kla_fn "<lambda>" (X.env.qual ++ "<lambda>") params body scope (cloFrom X.env.cells scope.names []) pm (.ref c') ctv) ⟨[], []⟩ = pure [])
    (re : Reach X H s (cxOf CXg X.prog X.w X.K X.mg X.base Ng qg sg g cdg Az oz sz Hz Eg))
    (tk : Takes ((cxOf CXg X.prog X.w X.K X.mg X.base Ng qg sg g cdg Az oz sz Hz Eg).tr pn xe) W) (hW : ∀ cls d H', E cls d H' → W cls d σ0 H') (hr : Room (k + 1) (Az.deeper (envOfC qg sg sz.heap.objs.size g cdg)))
    (hbody : ∀ (A : Around) (outer : List Env) (s : Shared) (H : Hp), Room k (A.deeper (lamEnv X scope s.heap.objs.size f c')) → PE (lamCx X A outer s H E scope f c') body tb)
    (hN : Ng[i]? = some a) (hv : Vis sg a) (hd : (a == ("__debug__" : Str)) = false := by decide) (hcd : (a == ("__classdict__" : Str)) = false := by decide) :
    PE ((cxOf CXg X.prog X.w X.K X.mg X.base Ng qg sg g cdg Az oz sz Hz Eg).tr pn xe) (.Call (.Name a p1) [] [] p2)
      (fun σZ HZ Q => σZ = σ0 ∧ σZ[i]? = some (some (.ref f)) ∧ HZ c' = some (CodeO c' (X.env.qual ++ "<lambda>")) ∧ tb σ HZ Q) := by
  refine ⟨fun pinsZ sZ σZ HZ Q IZ h => ?_⟩
  obtain ⟨e0, hs, hc, ht⟩ := h
  subst e0
  refine wpAny_Call_Name_kw (thn ((pe_var (pos := p1) (i := i) hN hv hd hcd).run pinsZ sZ σZ HZ (fun v H1 => v = .ref f ∧ H1 = HZ) IZ ⟨.ref f, hs, rfl, rfl⟩) fun u s1 ⟨v, H1, I1, r1, q1⟩ => ?_)
  obtain ⟨ev, eH⟩ := q1
  subst ev
  rw [eH] at I1
  obtain rfl : u = Value.ref f := r1
  have un : Un (frs X.stack) [] H HZ s.heap s1.heap := re _ _ _ _ _ _ I1
  have of1 : s1.heap.get? f = some (PySem.W.kla_obj "<lambda>" (X.env.qual ++ "<lambda>") params body scope (cloFrom X.env.cells scope.names []) pm c' ctv) := un.keep f _ hf hfn hfr (fun z => nomatch (show f ∈ ([] : List Addr) from z))
  refine PySem.W.callWith_F0 ⟨_, _, _, _, of1⟩ ?_
  obtain ⟨⟨oc, vs, t, hoc, hdc, hvc⟩, _, _⟩ := I1.hok c' _ hc
  have rc : codeAny (model X.prog X.w) (Az.deeper (envOfC qg sg sz.heap.objs.size g cdg)) (.call (.ref f) ⟨[], []⟩) (CR (L2.CX X.prog X.w) (envOfC qg sg sz.heap.objs.size g cdg :: oz) X.prog X.w HZ s1 Q E) s1 := by
    refine PySem.W.kla_callFunE hr.depth of1 rfl L.co L.gen rfl ⟨c', oc, vs, t, rfl, hoc, hdc, hvc⟩ ?_
    rw [hbind]
    refine wpAny_pure (wpAny_newFunctionEnv (fun y hy => (L.own y hy).2) (fun y hy => absurd hy (by simp)) (fun h₁ hns hsb => ⟨I1.nolimit.fresh _ hsb, ?_⟩) L.kind)
    show codeAny _ _ (.expr body (lamEnv X scope s1.heap.objs.size f c')) _ _
    have kp : ∀ b o, s1.heap.get? b = some o → h₁.get? b = some o := fun b o e => hsb.extBut b o (Nat.ne_of_lt (Heap.lt_size e)) (Heap.get?_push_of_some _ e)
    have J : Inv (lamCx X (Az.deeper (envOfC qg sg sz.heap.objs.size g cdg)) (envOfC qg sg sz.heap.objs.size g cdg :: oz) s1 HZ E scope f c') [] σ HZ { s1 with heap := h₁, toks := s1.toks + ([] : List (Str × Value)).length } :=
      lam_start2 I L I1.env0 hr.hd un hns kp
    refine PySem.W.kla_codeExpr (wpAny_mono ((hbody _ _ s1 HZ (hr.deeper _)).run [] _ _ HZ Q J ht) (fun v s' hq => ?_) fun e s' hq => hq)
    obtain ⟨w', H', J', rv, q⟩ := hq
    exact ⟨w', H', J'.os, J'.bare, J'.base, J'.hok, rv, q⟩
  refine wpAny_call (codeAny_mono rc fun r s' hq => ?_)
  cases r with
  | error e => exact tk e s' (XE.of_call I1 hW hq)
  | ok fl =>
    cases fl with
    | ret u => exact I1.after hq
    | next => exact False.elim hq
    | brk => exact False.elim hq
    | cont => exact False.elim hq
end
/-- the def that calls what it got, entered from anywhere -/
def GivesToA (P : Program) (w : World) (K : PySem.W.Frag) (mg : Str → Option Value) (base : Heap) (Ng : List Str) (x : Str) (sg : Scope) (g : Addr) (cdg : Value) (bg : List Stmt) (a : Str) (q : Str) (TT : (XK → Hp → VK → Prop) → Hp → VK → Prop) : Prop :=
  ∀ (A : Around) (outer : List Env) (f c' : Addr) (s : Shared) (H : Hp) (Q : VK) (tl : XK → Hp → VK → Prop),
    (∀ (W : WX) (pn : List (Addr × Obj)) (xe : Value → Shared → Prop) (E : XK) (σ0 : L2.St) (p1 p2 : Pos), Takes ((cxOf C8.CX0 P w K mg base Ng x sg g cdg A outer s H C8.E0).tr pn xe) W → (∀ cls d H', E cls d H' → W cls d σ0 H') →
      PE ((cxOf C8.CX0 P w K mg base Ng x sg g cdg A outer s H C8.E0).tr pn xe) (.Call (.Name a p1) [] [] p2) (fun σZ HZ Q => σZ = σ0 ∧ σZ[0]? = some (some (.ref f)) ∧ HZ c' = some (CodeO c' q) ∧ tl E HZ Q)) →
    H c' = some (CodeO c' q) → TT tl H Q →
    ∃ t, PSs (cxOf C8.CX0 P w K mg base Ng x sg g cdg A outer s H C8.E0).nox bg t ∧ t { nx := fun _ H' => Q .non H', rt := Q } (L2.start Ng [.ref f]) H
theorem GivesToA.here {X : Cx} {Ng : List Str} {x : Str} {sg : Scope} {g : Addr} {cdg : Value} {bg : List Stmt} {a q : Str} {TT : (XK → Hp → VK → Prop) → Hp → VK → Prop} (h : GivesToA X.prog X.w X.K X.mg X.base Ng x sg g cdg bg a q TT) : GivesToS X Ng x sg g cdg bg a q TT := fun f c' s H Q tl => h X.A X.stack f c' s H Q tl
/-- the def that hands what it got to another one: x(a) told -/
def Hands (kk : Nat) (P : Program) (w : World) (K : PySem.W.Frag) (mg : Str → Option Value) (base : Heap) (Ng : List Str) (x : Str) (sg : Scope) (g : Addr) (cdg : Value) (bg : List Stmt) (y a : Str) (q : Str) (T1 : (XK → Hp → VK → Prop) → Hp → VK → Prop) (TT : (XK → Hp → VK → Prop) → List V → Hp → VK → Prop) : Prop :=
  ∀ (A : Around) (outer : List Env) (f c' : Addr) (s : Shared) (H : Hp) (vs : List V) (Q : VK) (tl : XK → Hp → VK → Prop), A.guards = some [] → Room kk (A.deeper (envOfC x sg s.heap.objs.size g cdg)) →
    (∀ (p1 p2 p3 : Pos), PE (cxOf C8.CX0 P w K mg base Ng x sg g cdg A outer s H C8.E0).nox (.Call (.Name y p1) [.Name a p2] [] p3) (fun σY HY Q => σY[0]? = some (some (.ref f)) ∧ HY c' = some (CodeO c' q) ∧ T1 tl HY Q)) →
    H c' = some (CodeO c' q) → TT tl vs H Q →
    ∃ t, PSs (cxOf C8.CX0 P w K mg base Ng x sg g cdg A outer s H C8.E0).nox bg t ∧ t { nx := fun _ H' => Q .non H', rt := Q } (L2.start Ng (.ref f :: vs)) H
/-- slots, the table, the code's address -/
def tLam2 (T : List (Addr × Str)) (q : Str) (TT : (XK → Hp → VK → Prop) → List V → Hp → VK → Prop) (t : XK → TE) (ta : TA) : TE := fun σ H Q => Tabs T H ∧ ∀ H1 c', ExtN H H1 → Tabs T H1 → H1 c' = some (CodeO c' q) →
  ta σ H1 (fun vs H2 => H2 c' = some (CodeO c' q) ∧ TT (fun E H' Q' => t E σ H' Q') vs H2 Q)
section
variable {X : Cx}
/-- x(lambda: body, e, ..), where x hands the lambda to y -/
theorem pe_lamhand {T : List (Addr × Str)} {T1 : (XK → Hp → VK → Prop) → Hp → VK → Prop} {TT : (XK → Hp → VK → Prop) → List V → Hp → VK → Prop} {x y a b : Str} {g gy c P : Addr} {k : Nat} {pg py : Arguments} {bg by_ : List Stmt} {sg sy : Scope} {dV kV doc pm cdv ct oc dVy kVy docy pmy cdy cty ocy : Value} {an od any ody : Option Addr} {osl osly : Array (Option Value)} {Ng Ny : List Str} {pss : List Str}
    {params : Arguments} {body : Expr} {scope : Scope} {es : List Expr} {t : XK → TE} {ta : TA} {p lpos pos : Pos} (hg : Gl X x) (hm : X.mg x = some (.ref g)) (hk : PySem.W.keepIn X.K (.ref g) = true)
    (lk : X.K.lookup g = some ⟨oc, od, .func (PySem.W.fnOf x x pg bg sg dV kV doc pm an cdv ct), osl⟩) (hcg : PySem.W.codeIn X.K cdv x = true) (hb : L2.Binds X.K (PySem.W.fnOf x x pg bg sg dV kV doc pm an cdv ct) (b :: pss) []) (Sg : FnScope Ng (b :: pss) sg) (hNg : Ng[0]? = some b) (hva : Vis sg b)
    (hG : Hands (k + 2) X.prog X.w X.K X.mg X.base Ng x sg g cdv bg y b (X.env.qual ++ "<lambda>") T1 TT)
    (hl : ∀ tl vs H Q, TT tl vs H Q → vs.length = pss.length)
    (hgy : sg.names.lookup y = some .globalImplicit) (hmy : X.mg y = some (.ref gy)) (hky : PySem.W.keepIn X.K (.ref gy) = true)
    (lky : X.K.lookup gy = some ⟨ocy, ody, .func (PySem.W.fnOf y y py by_ sy dVy kVy docy pmy any cdy cty), osly⟩) (hcy : PySem.W.codeIn X.K cdy y = true) (hby : L2.Binds X.K (PySem.W.fnOf y y py by_ sy dVy kVy docy pmy any cdy cty) [a] []) (Sy : FnScope Ny [a] sy) (hNy : Ny[0]? = some a) (hvy : Vis sy a)
    (hGy : GivesToA X.prog X.w X.K X.mg X.base Ny y sy gy cdy by_ a (X.env.qual ++ "<lambda>") T1)
    (TB : TabB X.base X.mg c P) (hcode : X.env.code = .ref c) (hmT : (P, X.env.qual ++ "<lambda>") ∈ T) (hu : ∀ p ∈ T, p.1 = P → p.2 = X.env.qual ++ "<lambda>") (hr : Room (k + 3) X.A) (L : LamS X.env.scope scope) (hdef : defaultsOf params X.env = ([], []))
    (hbind : ∀ (q : Str) (cl : List (Str × Addr)) (pm cv ctv : Value), bindArgs (PySem.W.kla_fn "<lambda>" q params body scope cl pm cv ctv) ⟨[], []⟩ = pure [])
    (hbody : ∀ (A : Around) (outer : List Env) (s : Shared) (H : Hp) (E : XK) (f c' : Addr), Room k (A.deeper (lamEnv X scope s.heap.objs.size f c')) → PE (lamCx X A outer s H E scope f c') body (t E))
    (hes : PA X es ta) (hgu : X.A.guards = some [])
    (hdb : (x == ("__debug__" : Str)) = false := by decide) (hdy : (y == ("__debug__" : Str)) = false := by decide) (hd : (a == ("__debug__" : Str)) = false := by decide) (hcd : (a == ("__classdict__" : Str)) = false := by decide) (hd2 : (b == ("__debug__" : Str)) = false := by decide) (hcd2 : (b == ("__classdict__" : Str)) = false := by decide)
    (hse : starEach (.Lambda params body scope lpos :: es) X.env = (false, eval (.Lambda params body scope lpos) X.env) :: starEach es X.env := by rfl) (hpl : (backTo pos (starEach es X.env)).any (·.1) = false := by rfl) :
    PE X (.Call (.Name x p) (.Lambda params body scope lpos :: es) [] pos) (tLam2 T (X.env.qual ++ "<lambda>") TT t ta) := by
  refine ⟨fun pins s σ H Q I h => ?_⟩
  obtain ⟨hT, h⟩ := h
  refine wpAny_Call_Name_kw (ld_glob I hg hm ?_ hdb)
  refine PySem.W.callWith_K (h₀ := X.base) I.ok.mod.kin hk ?_ hse hpl
  rw [hse]
  show wpAny _ _ (spliced ((false, eval (.Lambda params body scope lpos) X.env) :: backTo pos (starEach es X.env))) _ _ s
  refine Calls.spliced_cons (lam_make2 I TB hcode hmT hu hT hdef (L.has I.ok) fun f c' pm' ctv H1 s' I1 eN T1' hf hfn hfr hco => ?_)
  have nfL : f ≠ X.env.locals ∧ f ∉ X.fs := by
    refine ⟨fun z => ?_, fun z => hfr ?_⟩
    · obtain ⟨m, hn, _⟩ := I1.loc
      obtain ⟨ob, es', ep, ho, r⟩ := hn
      rw [z] at hf
      rw [ho] at hf
      have := congrArg Obj.data (Option.some.inj hf)
      rw [r.1] at this
      cases this
    · rcases I1.ok.stk with e | ⟨e, e2⟩
      · rw [e]
        exact z
      · rw [e]
        unfold frs at z ⊢
        rw [List.filterMap_cons, e2]
        exact List.mem_cons_of_mem _ z
  have Ip : Inv X ((f, PySem.W.kla_obj "<lambda>" (X.env.qual ++ "<lambda>") params body scope (cloFrom X.env.cells scope.names []) pm' c' ctv) :: pins) σ H1 s' := I1.pins_of fun p hp => by
    rcases List.mem_cons.mp hp with rfl | hp
    · exact ⟨hf, hfn, nfL.1, nfL.2, fun v z => by simp [PySem.W.kla_obj] at z⟩
    · exact I1.pin p (List.mem_append_right _ hp)
  refine thn (hes.run pos _ s' σ H1 _ Ip (h H1 c' eN T1' hco)) fun us s2 ⟨vs, H2, J, r, hc2, q⟩ => ?_
  obtain ⟨hf2, hfn2, _⟩ := J.pin _ (List.mem_append_right _ List.mem_cons_self)
  have I2 : Inv X pins σ H2 s2 := J.pins_of fun p hp => J.pin p (List.mem_append_right _ (List.mem_cons_of_mem _ hp))
  refine ⟨I2.kIn, ?_⟩
  have rc : codeAny (model X.prog X.w) X.A (.call (.ref g) ⟨.ref f :: us, []⟩) (CR C8.CX0 X.stack X.prog X.w H2 s2 Q C8.E0) s2 := by
    refine run_ofS (N := Ng) (ps := b :: pss) (us := .ref f :: us) (vs := .ref f :: vs) lk hcg Sg hr I2.env0 (by
        have hb' := hb s2 (.ref f :: us) I2.kIn (by rw [List.append_nil, List.length_cons, ← r.length, hl _ _ _ _ q]; rfl)
        rwa [List.append_nil] at hb') (.cons rfl r) (by rw [List.length_cons, hl _ _ _ _ q, List.length_cons]) fun hr' => ?_
    have hpass : ∀ (p1 p2 p3 : Pos), PE (cxOf C8.CX0 X.prog X.w X.K X.mg X.base Ng x sg g cdv X.A X.stack s2 H2 C8.E0).nox (.Call (.Name y p1) [.Name b p2] [] p3) (fun σY HY Q => σY[0]? = some (some (.ref f)) ∧ HY c' = some (CodeO c' (X.env.qual ++ "<lambda>")) ∧ T1 (fun E H' Q' => t E σ H' Q') HY Q) := by
      intro p1 p2 p3
      refine ⟨fun pinsY sY σY HY QY IY hY => ?_⟩
      obtain ⟨y1, y2, y3⟩ := hY
      have hgl : Gl (cxOf C8.CX0 X.prog X.w X.K X.mg X.base Ng x sg g cdv X.A X.stack s2 H2 C8.E0).nox y := hgy
      refine wpAny_Call_Name_kw (ld_glob IY hgl hmy ?_ hdy)
      have pa : PA (cxOf C8.CX0 X.prog X.w X.K X.mg X.base Ng x sg g cdv X.A X.stack s2 H2 C8.E0).nox [.Name b p2] _ := pa_cons (pe_var (pos := p2) (i := 0) hNg hva hd2 hcd2) pa_nil
      refine PySem.W.callWith_K (h₀ := X.base) IY.ok.mod.kin hky (thn (pa.run p3 pinsY sY σY HY (fun vs H1 => vs = [.ref f] ∧ H1 = HY) IY ⟨.ref f, y1, rfl, rfl⟩) fun us1 s3 ⟨vs1, H3, I3, r3, q3⟩ => ?_) (by rfl) (by rfl)
      obtain ⟨e1, e2⟩ := q3
      subst e1
      rw [e2] at I3
      refine ⟨I3.kIn, ?_⟩
      have un : Un (frs X.stack) [] H2 HY s2.heap s3.heap := I3.base
      have rc2 : codeAny (model X.prog X.w) (X.A.deeper (envOfC x sg s2.heap.objs.size g cdv)) (.call (.ref gy) ⟨us1, []⟩) (CR C8.CX0 (envOfC x sg s2.heap.objs.size g cdv :: X.stack) X.prog X.w HY s3 QY C8.E0) s3 := by
        refine run_ofS (N := Ny) (ps := [a]) (us := us1) (vs := [.ref f]) lky hcy Sy hr' I3.env0 (by
          have hb' := hby s3 us1 I3.kIn (by rw [List.append_nil, ← r3.length]; rfl)
          rwa [List.append_nil] at hb') r3 rfl fun hr2 => ?_
        obtain ⟨t', ht', hq'⟩ := hGy (X.A.deeper (envOfC x sg s2.heap.objs.size g cdv)) (envOfC x sg s2.heap.objs.size g cdv :: X.stack) f c' s3 HY QY (fun E H' Q' => t E σ H' Q') (fun W pn xe E σ0 p1 p2 tk hW => pe_actR (i := 0) I2 L hf2 hfn2 hfr (hbind _ _ _ _ _) (reach2 rfl un (Nat.le_refl _)) tk hW hr2 (fun A outer s H hr3 => hbody A outer s H E f c' hr3) hNy hvy hd hcd) y2 y3
        exact ⟨t', ht'.nox, hq'⟩
      refine wpAny_call (codeAny_mono rc2 fun r s4 hq => ?_)
      cases r with
      | error e => exact (show False from hq).elim
      | ok fl =>
        cases fl with
        | ret u => exact I3.after hq
        | next => exact False.elim hq
        | brk => exact False.elim hq
        | cont => exact False.elim hq
    obtain ⟨t', ht', hq'⟩ := hG X.A X.stack f c' s2 H2 vs Q (fun E H' Q' => t E σ H' Q') hgu hr' hpass hc2 q
    exact ⟨t', ht'.nox, hq'⟩
  refine wpAny_call (codeAny_mono rc fun r s3 hq => ?_)
  cases r with
  | error e => exact (show False from hq).elim
  | ok fl =>
    cases fl with
    | ret u => exact I2.after hq
    | next => exact False.elim hq
    | brk => exact False.elim hq
    | cont => exact False.elim hq
end
section
variable {P : Program} {w : World} {K : PySem.W.Frag} {mg : Str → Option Value} {base : Heap}
theorem fnG_of {k : Nat} {f : Addr} {name qual : Str} {params : Arguments} {body : List Stmt} {scope : Scope} {dV kV doc pm cdv ct oc : Value} {an od : Option Addr} {osl : Array (Option Value)} {N ps : List Str} {sp : Sp}
    (lk : K.lookup f = some ⟨oc, od, .func (PySem.W.fnOf name qual params body scope dV kV doc pm an cdv ct), osl⟩) (hcd : PySem.W.codeIn K cdv qual = true) (S : FnScope N ps scope) (len : ∀ vs H Q E, sp vs H Q E → vs.length = ps.length)
    (hbody : ∀ (A : Around) (outer : List Env) (s : Shared) (H : Hp) (vs : List V) (Q : VK) (E : XK), A.guards = some [] → Room k (A.deeper (envOfC qual scope s.heap.objs.size f cdv)) → sp vs H Q E →
      ∃ t, PSs (cxOf L2.CX0 P w K mg base N qual scope f cdv A outer s H E).nox body t ∧ t { nx := fun _ H' => Q .non H', rt := Q } (L2.start N vs) H) :
    FnG P w K mg base (k + 1) f (PySem.W.fnOf name qual params body scope dV kV doc pm an cdv ct) ps sp := by
  refine ⟨len, fun A outer s H args us vs Q E hg hr e0 hb r q => ?_⟩
  exact run_ofS (E := E) lk hcd S hr e0 hb r (len _ _ _ _ q) fun hr' => by
    obtain ⟨t, h1, h2⟩ := hbody A outer s H vs Q E hg hr' q
    exact ⟨t, h1.nox, h2⟩
end
end OGX
set_option Elab.async false
set_option linter.all false
set_option maxRecDepth 100000
set_option maxHeartbeats 4000000
namespace OGX
open PySem PySem.Spec PyProof.Rows L2 LamX
/-- e.f, e a kept exception of a class that is told in the reading -/
def tXvA (K : PySem.W.Frag) (f : Str) (te : TE) : TE := fun σ H Q => te σ H fun x H1 => ∃ (C a dd : Addr) (fs : List (Str × V)) (v : V), x = .ref a ∧ H1 a = some (ExV (.ref C) (some dd) a) ∧ H1 dd = some (.xd fs) ∧ XfC K C ∧ PySem.W.findIn K (.ref C) f = some none ∧ fs.lookup f = some v ∧ Q v H1
theorem pe_xvA {X : Cx} {e : Expr} {te : TE} {pos : Pos} {n : Str} (he : PE X e te) (hb : attributeBase e n X.env (eval e X.env) = eval e X.env := by rfl) : PE X (.Attribute e n pos) (tXvA X.K n te) := by
  refine ⟨fun pins s σ H Q I h => ?_⟩
  refine attr_of hb (thn (he.run pins s σ H _ I h) fun u s1 hh => ?_)
  obtain ⟨x, H1, I1, rx, C, a, dd, fs, v, ex, eo, ea, T, hno, l, q⟩ := hh
  subst ex
  obtain rfl : u = Value.ref a := rx
  obtain ⟨⟨oe, vs, ha, hz, hd⟩, _, _⟩ := I1.hok a _ eo
  have hx : ObjOk X.prog X.w H1 s1.heap dd (.xd fs) := I1.hok dd _ ea
  obtain ⟨mA, hns, hr⟩ := hx
  obtain ⟨od, ho, hl⟩ := lookIn_ns hns
  obtain ⟨u, hu, ru⟩ := RelO.some_of (v := v) (o := mA n) (by rw [← l]; exact hr n)
  have J : PySem.W.InstAt s1.heap a oe C (some od) := ⟨ha, hz.1, by unfold PySem.W.notCls; rw [hd] <;> rfl, by rw [hz.2]; exact ho⟩
  exact HandSPX.exc_get I1.kIn J T.ga T.gg T.exC (PySem.W.findObj_own T.hdC hno rfl (by rw [hl, hu])) (handed_of ru) ⟨v, H1, I1.tok _, ru, q⟩
end OGX
set_option Elab.async false
set_option linter.all false
set_option maxRecDepth 100000
set_option maxHeartbeats 8000000
namespace OG
open PySem PySem.Spec PyProof.Rows L2 LamX
/-! what does not look at tables -/
theorem SqT.extN {K : PySem.W.Frag} {H H' : Hp} {a : Addr} {xs : List V} (h : SqT K H a xs) (e : ExtN H H') : SqT K H' a xs :=
  h.elim (fun h => .inl (h.elim (fun h => .inl (e _ _ h fun _ z => by cases z)) fun ⟨o, h⟩ => .inr ⟨o, e _ _ h fun _ z => by cases z⟩)) fun h => .inr h
theorem SqL.extN {K : PySem.W.Frag} {H H' : Hp} {a : Addr} {xs : List V} (h : SqL K H a xs) (e : ExtN H H') : SqL K H' a xs :=
  h.elim (fun h => .inl (h.elim (fun h => .inl (e _ _ h fun _ z => by cases z)) fun ⟨o, h⟩ => .inr ⟨o, e _ _ h fun _ z => by cases z⟩)) fun h => .inr h
mutual
theorem Dp.extN {K : PySem.W.Frag} {H H' : Hp} (s : ExtN H H') : ∀ {v : V} {d : PyData}, Dp K H v d → Dp K H' v d
  | _, _, .non => .non
  | _, _, .bl b => .bl b
  | _, _, .int i => .int i
  | _, _, .str z => .str z
  | _, _, .lst h a => .lst (SqL.extN h s) (DpAll.extN s a)
  | _, _, .tup h a => .tup (SqT.extN h s) (DpAll.extN s a)
theorem DpAll.extN {K : PySem.W.Frag} {H H' : Hp} (s : ExtN H H') : ∀ {vs : List V} {ds : List PyData}, DpAll K H vs ds → DpAll K H' vs ds
  | _, _, .nil => .nil
  | _, _, .cons h a => .cons (Dp.extN s h) (DpAll.extN s a)
end
theorem ObjAt.extN {K : PySem.W.Frag} {mg : Str → Option Value} {T : Txt K mg} {H H' : Hp} {x : Addr} {z : Str} {b : Int} {mw : List (Str × Int)} {kw : List (Str × List Int)} (h : ObjAt T H x z b mw kw) (s : ExtN H H') : ObjAt T H' x z b mw kw := by
  have gm : ∀ {t xs}, MkT H t xs → MkT H' t xs := fun {t xs} ⟨o, e, d⟩ => ⟨o, s _ _ e (fun _ z => by cases z), d⟩
  obtain ⟨dx, t1, t2, a1, a2, fs, kv2, hx, l10, f1, f2, f3, g1, f4, g2, f5, g3, f6, g4, g5, n1, n2⟩ := h
  refine ⟨dx, t1, t2, a1, a2, fs, kv2, s _ _ hx (fun _ z => by cases z), l10, f1, f2, f3, gm g1, f4, gm g2, f5, s _ _ g3 (fun _ z => by cases z), f6, s _ _ g4 (fun _ z => by cases z), ?_, n1, n2⟩
  have key : ∀ {kv : List (Key × V)} {kw : List (Str × List Int)}, KvK H kv kw → KvK H' kv kw := by
    intro kv kw h
    induction h with
    | nil => exact .nil
    | cons h _ ih =>
      obtain ⟨e, t, et, ht⟩ := h
      exact .cons ⟨e, t, et, s _ _ ht (fun _ z => by cases z)⟩ ih
  exact key g5
theorem BO.extN {K : PySem.W.Frag} {mg : Str → Option Value} {T : Txt K mg} {H H' : Hp} {x : Addr} {z : Str} {b : Int} {m : Nat} {ms ks : List Str} {ws : List Int} {Ms : List (List (List Int))} (h : BO T H x z b m ms ks ws Ms) (s : ExtN H H') : BO T H' x z b m ms ks ws Ms := ⟨h.obj.extN s, h.ok, h.mat⟩
theorem BO.kp {K : PySem.W.Frag} {mg : Str → Option Value} {T : Txt K mg} {H H' : Hp} {x p : Addr} {z : Str} {b : Int} {m : Nat} {ms ks : List Str} {ws : List Int} {Ms : List (List (List Int))} (h : BO T H x z b m ms ks ws Ms) (hp : ∃ xs, H p = some (.lst xs)) (k : Kp p H H') : BO T H' x z b m ms ks ws Ms := ⟨h.obj.kp hp k, h.ok, h.mat⟩
theorem Tab.extN {b : Int} {H H' : Hp} {t : Addr} {m : Nat} {M : List (List Int)} (h : Tab b H t m M) (s : ExtN H H') : Tab b H' t m M := by
  obtain ⟨rs, l1, l2, l3, l4, l5⟩ := h
  refine ⟨rs, s _ _ l1 (fun _ z => by cases z), l2, l3, fun j r hr => ?_, l5⟩
  obtain ⟨row, p1, p2⟩ := l4 j r hr
  exact ⟨row, p1, s _ _ p2 (fun _ z => by cases z)⟩
theorem BookAt.extN {H H' : Hp} {o : Addr} {b : Int} {m : Nat} {ms ks : List Str} {ws : List Int} {Ms : List (List (List Int))} (h : BookAt H o b m ms ws ks Ms) (s : ExtN H H') : BookAt H' o b m ms ws ks Ms := by
  obtain ⟨kvs, tm, tw, tk, td, h1, h2, h3, h4, h5, h6, h7, h8, h9, h10, tk2, h11, hn, hl, h12⟩ := h
  refine ⟨kvs, tm, tw, tk, td, s _ _ h1 (fun _ z => by cases z), h2, h3, h4, s _ _ h5 (fun _ z => by cases z), h6, s _ _ h7 (fun _ z => by cases z), h8, s _ _ h9 (fun _ z => by cases z), h10, tk2, s _ _ h11 (fun _ z => by cases z), hn, hl, fun i k hk => ?_⟩
  obtain ⟨t, M, e1, e2, e3⟩ := h12 i k hk
  exact ⟨t, M, e1, e2, e3.extN s⟩
theorem NearV.extN {H H' : Hp} (s : ExtN H H') : ∀ {v : V}, NearV H v → NearV H' v
  | .non, h => h
  | .bl _, h => h
  | .int _, h => h
  | .str _, h => h
  | .ref a, h => by
    rcases h with ⟨xs, h⟩ | ⟨xs, h⟩ | ⟨xs, h⟩
    · exact .inl ⟨xs, s _ _ h fun _ z => by cases z⟩
    · exact .inr (.inl ⟨xs, s _ _ h fun _ z => by cases z⟩)
    · exact .inr (.inr ⟨xs, s _ _ h fun _ z => by cases z⟩)
theorem Hm.extN {p : Addr} {H H' : Hp} (k : ExtN H H') : ExtN (Hm p H) (Hm p H') := fun b o e n => by
  by_cases nb : b = p
  · rw [nb] at e
    unfold Hm at e
    rw [if_pos rfl] at e
    cases e
  · rw [Hm.ne nb] at e ⊢
    exact k b o e n
theorem ShD.extN {K : PySem.W.Frag} {H H' : Hp} {v : V} {d : PyData} (s : ExtN H H') (h : OGX.ShD K H v d) : OGX.ShD K H' v d := by
  rcases h with ⟨h, e⟩ | ⟨a, rfl, ⟨h, e⟩ | ⟨k, i, h, e⟩⟩
  · exact .inl ⟨Dp.extN s h, e⟩
  · exact .inr ⟨a, rfl, .inl ⟨s _ _ h (fun _ z => by cases z), e⟩⟩
  · exact .inr ⟨a, rfl, .inr ⟨k, i, s _ _ h (fun _ z => by cases z), e⟩⟩
theorem Val.extN {K : PySem.W.Frag} {p : Addr} {H H' : Hp} {v : V} (h : Val K p H v) (s : ExtN H H') : Val K p H' v := by
  obtain ⟨e, h1, h2⟩ := h.dat
  refine ⟨NearV.extN s h.near, ⟨e, ShD.extN (Hm.extN s) h1, h2⟩, fun a xs ev ha => ?_⟩
  subst ev
  have old : H a = some (.tup xs) := by
    rcases h.near with ⟨ys, e⟩ | ⟨ys, e⟩ | ⟨ys, e⟩
    · rw [s _ _ e fun _ z => by cases z] at ha
      cases ha
    · rw [s _ _ e fun _ z => by cases z] at ha
      cases ha
      exact e
    · rw [s _ _ e fun _ z => by cases z] at ha
      cases ha
  obtain ⟨i1, i2⟩ := h.its a xs rfl old
  exact ⟨fun x hx => NearV.extN s (i1 x hx), i2⟩
/-- repr of a value -/
theorem Val.shd {K : PySem.W.Frag} {p : Addr} {H : Hp} {v : V} (h : Val K p H v) : ∃ d, OGX.ShD K H v d ∧ d.showable = true ∧ d.depth ≤ 60 ∧ d.shown.length ≤ sizeLine := by
  obtain ⟨e, h1, h2⟩ := h.dat
  exact ⟨e, ShD.sm Hm.same h1, h2⟩
/-- the lambdas' names -/
def jq1 : Str := (envOfC "_law_is_renamed_right" (defScope s_l_is_renamed_right) (0 : Nat) (0 : Nat) .none).qual ++ "<lambda>"
def jq2 : Str := (envOfC "_law_is_asked_right" (defScope s_l_is_asked_right) (0 : Nat) (0 : Nat) .none).qual ++ "<lambda>"
abbrev TT2 (P1 P2 : Addr) : List (Addr × Str) := [(P1, jq1), (P2, jq2)]
/-- the judges' code objects -/
structure JAt1 (K : PySem.W.Frag) (mg : Str → Option Value) (T : Txt K mg) (c : Addr) : Prop where
  ex : ∃ (oc : Value) (od : Option Addr) (kV doc pm : Value) (an : Option Addr) (ct : Value) (osl : Array (Option Value)),
    T.fd_l_is_renamed_right = PySem.W.fnOf "_law_is_renamed_right" "_law_is_renamed_right" (defArgs s_l_is_renamed_right) (defBody s_l_is_renamed_right) (defScope s_l_is_renamed_right) .none kV doc pm an (.ref c) ct ∧ K.lookup T.f_l_is_renamed_right = some ⟨oc, od, .func T.fd_l_is_renamed_right, osl⟩ ∧ PySem.W.codeIn K (.ref c) "_law_is_renamed_right" = true
structure JAt2 (K : PySem.W.Frag) (mg : Str → Option Value) (T : Txt K mg) (c : Addr) : Prop where
  ex : ∃ (oc : Value) (od : Option Addr) (kV doc pm : Value) (an : Option Addr) (ct : Value) (osl : Array (Option Value)),
    T.fd_l_is_asked_right = PySem.W.fnOf "_law_is_asked_right" "_law_is_asked_right" (defArgs s_l_is_asked_right) (defBody s_l_is_asked_right) (defScope s_l_is_asked_right) .none kV doc pm an (.ref c) ct ∧ K.lookup T.f_l_is_asked_right = some ⟨oc, od, .func T.fd_l_is_asked_right, osl⟩ ∧ PySem.W.codeIn K (.ref c) "_law_is_asked_right" = true
/-- what is made of the call that is heard -/
def THeard (K : PySem.W.Frag) (CS : Addr) : (XK → Hp → VK → Prop) → Hp → VK → Prop := fun tl H Q => ∀ H1, Same H H1 →
  tl (fun cls d H' => ∃ b, PySem.W.exmOne K cls (.ref CS) = some b ∧ (b = true → ∀ a, H' a = none → ∀ t, upd H' a (OGX.ExV cls d a) t = none → Q (.ref t) (upd (upd H' a (OGX.ExV cls d a)) t (.tup [.ref a, .non]))) ∧ (b = false → False)) H1
    (fun v H' => ∀ t, H' t = none → Q (.ref t) (upd H' t (.tup [.non, v])))
theorem pe_weak {X : Cx} {e : Expr} {te : TE} (h : PE X e te) : PE X e (fun σ H Q => ∃ Qs : VK, (∀ v H', Qs v H' → Q v H') ∧ te σ H Qs) := by
  refine ⟨fun pins s σ H Q I hh => ?_⟩
  obtain ⟨Qs, hq, ht⟩ := hh
  refine wpAny_mono (h.run pins s σ H Qs I ht) (fun u s1 hu => ?_) fun _ _ x => x
  obtain ⟨v, H1, I1, r1, q1⟩ := hu
  exact ⟨v, H1, I1, r1, hq v H1 q1⟩
section
variable {P : Program} {w : World} {K : PySem.W.Frag} {mg : Str → Option Value} {base : Heap}
theorem heard_gives {T : Txt K mg} {g : Addr} {cdg : Value} {q : Str} : OGX.GivesToA P w K mg base ["call", "caught", "back", "error"] "_law_heard" (defScope s_l_heard) g cdg (defBody s_l_heard) "call" q (THeard K T.c_GateError) := by
  intro A outer f c' s H Q tl act hc h
  refine ⟨_, pss_cons (ps_asg (pe_tup (pa_cons pe_non (pa_cons pe_non pa_nil))) (pg_tup (by rfl) (pgs_cons (pg_name (i := 1) sc_l_heard.nd rfl (Or.inl rfl)) (pgs_cons (pg_name (i := 2) sc_l_heard.nd rfl (Or.inl rfl)) pgs_nil))))
    (pss_cons (OGX.ps_try_keep (i := 3) (c := .ref T.c_GateError)
      (tb := fun W D σ H => ∃ Ech : XK, (∀ cls d H', Ech cls d H' → W cls d σ H') ∧ σ[0]? = some (some (.ref f)) ∧ H c' = some (CodeO c' q) ∧ ∃ Qs : VK, (∀ v H', Qs v H' → D.nx (σ.set 2 (some v)) H') ∧ tl Ech H Qs)
      rfl rfl rfl sc_l_heard.nd rfl rfl ⟨by rfl, by decide, .inl T.g_GateError⟩ L2.takes0 (fun W pn xe tk _ => ?_) (fun a oe cls d pn _ _ => pss_one (ps_set (i := 1) sc_l_heard.nd rfl (Or.inl rfl) (pv 3))))
    (pss_one (ps_ret (pe_tup (pa_cons (pv 1) (pa_cons (pv 2) pa_nil)))))), ?_⟩
  · refine ⟨fun pins s' σ H' D I h' => ?_⟩
    obtain ⟨Ech, hW, h1, h2, Qs, hQ, h3⟩ := h'
    exact (pss_one (ps_set (i := 2) sc_l_heard.nd rfl (Or.inl rfl) (pe_weak (act W pn xe Ech σ _ _ tk hW)))).run pins s' σ H' D I ⟨Qs, hQ, rfl, h1, h2, h3⟩
  · refine ⟨Nat.le_trans (show 2 ≤ 1000 by decide) (by decide), fun t0 ht0 => ?_⟩
    have s0 := same_new (o := .tup [.non, .non]) ht0
    refine ⟨t0, _, rfl, SqT.of upd_same, rfl, _, _, rfl, _, _, rfl, rfl, ?_⟩
    refine ⟨_, ?_, rfl, s0 _ _ hc, _, ?_, h _ s0⟩
    · rintro cls d H' ⟨b, e1, e2, e3⟩
      refine ⟨b, e1, fun hb a ha => ?_, fun hb => e3 hb⟩
      refine ⟨.ref a, rfl, fun na => ?_⟩
      exact ⟨_, rfl, _, rfl, Nat.le_trans (show 2 ≤ 1000 by decide) (by decide), fun t ht => e2 hb a ha t ht⟩
    · intro v H' hv
      exact ⟨_, rfl, _, rfl, Nat.le_trans (show 2 ≤ 1000 by decide) (by decide), fun t ht => hv t ht⟩
/-- f(k2 = a, k1 = b): the arguments turned about -/
def turned2 {α : Type} : List α → List α → List α
  | [], [a, b] => [b, a]
  | _, _ => []
theorem kb_renamed {K : PySem.W.Frag} {f : Addr} {fd : FuncData} (F : Fun K "renamed" "renamed" s_renamed f fd) : KBinds K fd ["book", "names"] ["names", "book"] turned2 turned2 := by
  obtain ⟨oc, od, kV, doc, pm, an, cdv, ct, osl, rfl, lk, hcd⟩ := F.ex
  refine ⟨fun s us ws _ hl => ?_, fun {vs us zs ws} r r2 => ?_⟩
  · match us, ws, hl with
    | [], [a, b], _ => exact BindsTo.of_eq rfl
    | [], [], h => cases h
    | [], [_], h => cases h
    | [], _ :: _ :: _ :: _, h => cases h
    | _ :: _, _, h => cases h
  · cases r with
    | nil =>
      cases r2 with
      | nil => exact .nil
      | cons a r2 =>
        cases r2 with
        | nil => exact .nil
        | cons b r2 =>
          cases r2 with
          | nil => exact .cons b (.cons a .nil)
          | cons c r2 => exact .nil
    | cons a r => exact .nil
end
end OG
set_option Elab.async false
set_option linter.all false
set_option maxRecDepth 100000
set_option maxHeartbeats 8000000
namespace OG
open PySem PySem.Spec PyProof.Rows L2 LamX
theorem tt_one {P1 P2 : Addr} (ne : P1 ≠ P2) : ∀ p ∈ TT2 P1 P2, p.1 = P1 → p.2 = jq1 := fun p hp e => by
  rcases List.mem_cons.mp hp with rfl | hp
  · rfl
  · rw [List.mem_singleton.mp hp] at e
    exact absurd e.symm ne
theorem tt_two {P1 P2 : Addr} (ne : P1 ≠ P2) : ∀ p ∈ TT2 P1 P2, p.1 = P2 → p.2 = jq2 := fun p hp e => by
  rcases List.mem_cons.mp hp with rfl | hp
  · exact absurd e ne
  · rw [List.mem_singleton.mp hp]
section
variable {P : Program} {w : World} {K : PySem.W.Frag} {mg : Str → Option Value} {base : Heap}
def spRR (T : Txt K mg) (P1 P2 : Addr) : Sp := fun vs H Q _ => ∃ (o x p : Addr) (v : V) (b : Int) (m : Nat) (ms ks : List Str) (ws : List Int) (Ms : List (List (List Int))), vs = [.ref o, .ref x, v] ∧ BookAt H o b m ms ws ks Ms ∧ BkOk b m ms ws ks Ms ∧ (b = 0 ∨ b ∈ primesL) ∧ BO T H x (bookText b ms ws ks Ms) b m ms ks ws Ms ∧ Val K p H v ∧
  Tabs (TT2 P1 P2) H ∧ ∀ H', ExtN H H' → Tabs (TT2 P1 P2) H' → Q (.bl true) H'
theorem ok_l_is_renamed_right (T : Txt K mg) (XT : TxtX K mg T) (XM : TxtM K mg T) {c P1 P2 : Addr} (J : JAt1 K mg T c) (TB : TabB base mg c P1) (ne : P1 ≠ P2) : OGX.FnG P w K mg base 12 T.f_l_is_renamed_right T.fd_l_is_renamed_right ["own", "book", "names"] (spRR T P1 P2) := by
  obtain ⟨oc, od, kV, doc, pm, an, ct, osl, efd, lk, hcd⟩ := J.ex
  rw [efd] at lk ⊢
  refine OGX.fnG_of lk hcd sc_l_is_renamed_right (fun vs H Q E h => ?_) fun A outer s H vs Q E hG hr h => ?_
  · obtain ⟨o, x, p, v, _, _, _, _, _, _, rfl, _⟩ := h
    rfl
  obtain ⟨o, x, p, v, b, m, ms, ks, ws, Ms, rfl, hB, ok, hb, hX, hv, hT, q⟩ := h
  obtain ⟨och, odh, kVh, doch, pmh, anh, cdvh, cth, oslh, efh, lkh, hch⟩ := T.F_l_heard.ex
  have bh := T.b_l_heard
  rw [efh] at lkh bh
  refine ⟨_, (pss_cons (ps_asg (OGX.pe_lamcallS (T := TT2 P1 P2) (TT := THeard K T.c_GateError) (k := 9) (by rfl) T.g_l_heard T.F_l_heard.kp lkh hch bh sc_l_heard rfl (Or.inl rfl) (OGX.GivesToA.here heard_gives) TB rfl List.mem_cons_self (tt_one ne) (hr.mono (by decide)) (lamS_by (by show lamSB (defScope s_l_is_renamed_right) _ = true; decide +kernel)) rfl (fun _ _ _ _ _ => rfl)
      (fun A outer s H E f c' hr2 => OGX.pe_callK0 (ok_renamed T XT XM) (hr2.mono (by decide)) (by rfl) T.g_renamed T.F_renamed.kp (kb_renamed T.F_renamed) (passes_call (takes_of rfl rfl rfl rfl) (fun _ _ _ _ h => h)) (pk_cons (pv 2) (pk_cons (pv 1) pk_nil)))) (pg_tup (by rfl) (pgs_cons (pg_name (i := 3) sc_l_is_renamed_right.nd rfl (Or.inl rfl)) (pgs_cons (pg_name (i := 4) sc_l_is_renamed_right.nd rfl (Or.inl rfl)) pgs_nil))))
  (pss_cons (ps_if (pt_not (pt_val (pe_call (ok_l_are_names T) (hr.mono (by decide)) (by rfl) T.g_l_are_names T.F_l_are_names.kp T.b_l_are_names .nil pass0 (pa_cons (pv 2) (pa_cons (pe_callB call_len_seq (by rfl) T.n_len PySem.boot_len (pa_cons (pe_dget (hu_of hr) (pv 0) pe_str (fun _ _ => rfl)) pa_nil)) pa_nil))))) (pss_one (ps_ret (pe_and (pe_callB OGX.call_isK (by rfl) T.n_isinstance (by decide +kernel) (pa_cons (pv 3) (pa_cons (C8.pe_gc (v := .ref T.c_BadNames) (by rfl) ⟨_, T.g_BadNames, rfl⟩) pa_nil))) (pe_one (pe_cmpR op_eq (pe_callB (OGX.call_reprV hG hr.units) (by rfl) T.n_repr (by decide +kernel) (pa_cons (OGX.pe_xvA (pv 3)) pa_nil)) (pe_callB (OGX.call_reprV hG hr.units) (by rfl) T.n_repr (by decide +kernel) (pa_cons (pv 2) pa_nil)) (nomark _)))))) pss_nil)
  (pss_cons (ps_set (i := 5) sc_l_is_renamed_right.nd rfl (Or.inl rfl) (pe_call (ok_l_book_text T) (hr.mono (by decide)) (by rfl) T.g_l_book_text T.F_l_book_text.kp T.b_l_book_text .nil pass0 (pa_cons (pe_call (ok_l_book_picked T) (hr.mono (by decide)) (by rfl) T.g_l_book_picked T.F_l_book_picked.kp T.b_l_book_picked .nil pass0 (pa_cons (pv 0) (pa_cons (pe_listRg (by rfl) (by rfl) T.n_list (prg_1 (by rfl) T.n_range (pe_callB call_len_seq (by rfl) T.n_len PySem.boot_len (pa_cons (pv 2) pa_nil)))) (pa_cons (pv 2) (pa_cons (pe_dget (hu_of hr) (pv 0) pe_str (fun _ _ => rfl)) pa_nil))))) pa_nil)))
  (pss_cons (ps_if (PW.pt (pw_or (pt_cmpR op_notN (pv 3) pe_non (nomark _)) (pw_or (pt_not (pt_val (pe_callB call_isi (by rfl) T.n_isinstance (by decide +kernel) (pa_cons (pv 4) (pa_cons (C8.pe_gc (v := .ref T.c_Book) (by rfl) ⟨_, T.g_Book, rfl⟩) pa_nil))))) (pw_or1 (pt_cmpR op_ne (pe_fld (pv 4) rfl) (pv 5) (nomark _)))))) (pss_one (ps_ret pe_bl)) pss_nil)
  (pss_one (ps_ret (pe_and (pe_cmpR (OGX.op_eqOwn (ok_Book_eq T XT XM) (hr.mono (by decide)) XM.eq XM.eqF T.b_Book_eq passL) (pe_call (ok_renamed T XT XM) (hr.mono (by decide)) (by rfl) T.g_renamed T.F_renamed.kp T.b_renamed .nil passL (pa_cons (pv 4) (pa_cons (pe_dget (hu_of hr) (pv 0) pe_str (fun _ _ => rfl)) pa_nil))) (pv 1) (nomark _)) (pe_one (pe_cmpR op_eq (pe_fld (pv 1) rfl) (pe_call (ok_l_book_text T) (hr.mono (by decide)) (by rfl) T.g_l_book_text T.F_l_book_text.kp T.b_l_book_text .nil pass0 (pa_cons (pv 0) pa_nil)) (nomark _)))))))))), ?_⟩
  have mats := hX.mat
  have hml := ok.nm.len
  have hm4 := ok.m4
  have hm1 := ok.m1
  have nt : ∀ {o : HO}, (∀ ps, o = .tbl ps → False) → ∀ ps, o ≠ .tbl ps := fun h ps z => h ps z
  refine ⟨hT, fun H1 e1 hT1 => ?_⟩
  refine fun H2 s2 => ?_
  have e2 := e1.trans (ExtN.of s2)
  have hT2 := hT1.ext s2
  have hv2 := hv.extN e2
  have hX2 := hX.extN e2
  have hB2 := hB.extN e2
  have hl : ∀ {H' : Hp}, BookAt H' o b m ms ws ks Ms → ∃ (kvs : List (Key × V)) (tm tw : Addr), H' o = some (.dK kvs) ∧ valV kvs (.inr "marks") = some (.ref tm) ∧ H' tm = some (.tup (ms.map V.str)) ∧ valV kvs (.inr "weights") = some (.ref tw) ∧ H' tw = some (.tup (ws.map V.int)) := fun hB => by
    obtain ⟨kvs, tm, tw, tk, td, hO, hl10, v1, v2, hT2, v3, hT3, v4, hT4, v5, _⟩ := hB
    exact ⟨kvs, tm, tw, hO, v2, hT2, v3, hT3⟩
  refine ⟨v, rfl, .ref x, rfl, ?_⟩
  refine ⟨x, v, _, b, m, ms, ks, ws, Ms, rfl, hX2, hb, hv2.near, hv2.its, ?_⟩
  by_cases hg : Good H2 v m
  case neg =>
    refine .inr ⟨hg, fun d H3 s3 hd => ?_⟩
    refine ⟨true, XM.teN, fun _ a ha t ht => ?_, fun z => by cases z⟩
    have sE := same_new (o := OGX.ExV (.ref T.c_BadNames) (some d) a) ha
    have sT := same_new (o := .tup [.ref a, .non]) ht
    have hA : (upd (upd H3 a (OGX.ExV (.ref T.c_BadNames) (some d) a)) t (.tup [.ref a, .non])) a = some (OGX.ExV (.ref T.c_BadNames) (some d) a) := sT _ _ upd_same
    have hD : (upd (upd H3 a (OGX.ExV (.ref T.c_BadNames) (some d) a)) t (.tup [.ref a, .non])) d = some (.xd [("value", v)]) := sT _ _ (sE _ _ hd)
    have hTt : (upd (upd H3 a (OGX.ExV (.ref T.c_BadNames) (some d) a)) t (.tup [.ref a, .non])) t = some (.tup [.ref a, .non]) := upd_same
    have sF := (s3.trans sE).trans sT
    generalize upd (upd H3 a (OGX.ExV (.ref T.c_BadNames) (some d) a)) t (.tup [.ref a, .non]) = H5 at *
    have hv5 := hv2.same sF
    obtain ⟨kvs, tm, tw, hO, v2, hM, v3, hW⟩ := hl (hB2.same sF)
    refine ⟨t, _, rfl, SqT.of hTt, rfl, _, _, rfl, _, _, rfl, rfl, ?_⟩
    refine ⟨v, rfl, .ref o, rfl, o, _, rfl, dget hO v2, tm, _, rfl, .inr (SqT.of hM), ?_⟩
    have hg5 : ¬ Good H5 v m := fun ⟨t', ns, ev, ht', l1, l2, l3⟩ => by
      have near := hv2.near
      rw [ev] at near
      rcases near with ⟨ys, e⟩ | ⟨ys, e⟩ | ⟨ys, e⟩
      · rw [sF _ _ e] at ht'
        cases ht'
      · rw [sF _ _ e] at ht'
        have ht' := Option.some.inj ht'
        rw [ht'] at e
        exact hg ⟨t', ns, ev, e, l1, l2, l3⟩
      · rw [sF _ _ e] at ht'
        cases ht'
    refine ⟨v, m, (by rw [List.length_map, hml]; rfl), hv5.near, hv5.its, hm4, hm1, .inr ⟨hg5, fun H6 s6 => ?_⟩⟩
    have hv6 := hv5.same s6
    obtain ⟨dd, sh1, sh2, sh3, sh4⟩ := hv6.shd
    refine ⟨_, rfl, ?_⟩
    refine iteT ?_
    refine ⟨.ref a, rfl, a, T.c_BadNames, d, _, .ref T.c_BadNames, .ref T.c_BadNames, true, rfl, s6 _ _ hA, s6 _ _ hD, XM.ecN, fun u r => r, XM.ktNN, ?_⟩
    refine ⟨_, rfl, ?_⟩
    refine iteT ?_
    refine ⟨.ref a, rfl, T.c_BadNames, a, d, _, v, rfl, s6 _ _ hA, s6 _ _ hD, XM.xfN, XM.noN, rfl, v, dd, rfl, sh1, sh2, sh3, sh4, v, rfl, v, dd, rfl, sh1, sh2, sh3, sh4, rfl, ?_⟩
    show Q (.bl (decide _)) H6
    rw [decide_eq_true rfl]
    exact q H6 (e2.trans (ExtN.of (sF.trans s6))) ((hT2.ext sF).ext s6)
  obtain ⟨t, ns, rfl, ht, l1, l2, l3⟩ := id hg
  have hn : Nms ns m := ⟨l1, l3, l2⟩
  refine .inl ⟨t, ns, rfl, ht, hn, fun y H3 s3 ny hY => fun pp hpp => ?_⟩
  have s4 := same_new (o := .tup [.non, .ref y]) hpp
  have hP : (upd H3 pp (.tup [.non, .ref y])) pp = some (.tup [.non, .ref y]) := upd_same
  have hY := hY.same s4
  have s34 := s3.trans s4
  generalize upd H3 pp (.tup [.non, .ref y]) = H4 at *
  have hB4 := hB2.same s34
  have hX4 := hX2.same s34
  have hv4 := hv2.same s34
  have ht4 := s34 _ _ ht
  obtain ⟨kvs, tm, tw, hO, v2, hM, v3, hW⟩ := hl hB4
  refine ⟨pp, _, rfl, SqT.of hP, rfl, _, _, rfl, _, _, rfl, rfl, ?_⟩
  refine ⟨.ref t, rfl, .ref o, rfl, o, _, rfl, dget hO v2, tm, _, rfl, .inr (SqT.of hM), ?_⟩
  refine ⟨.ref t, m, (by rw [List.length_map, hml]; rfl), hv4.near, hv4.its, hm4, hm1, .inl ⟨⟨t, ns, rfl, ht4, l1, l2, l3⟩, fun H5 s5 => ?_⟩⟩
  refine ⟨_, rfl, ?_⟩
  refine iteF ?_
  dsimp only [tNext, tSeq]
  have hO5 := s5 _ _ hO
  have ht5 := s5 _ _ ht4
  have hB5 := hB4.same s5
  refine ⟨.ref o, rfl, .ref t, rfl, t, _, rfl, .inr (SqT.of ht5), ?_⟩
  rw [List.length_map, l1]
  refine ⟨m, rfl, RgOk.of_le (by omega) (by omega) (by omega) (by omega), fun pl hpl => ?_⟩
  rw [rgV_nat]
  have s6 := same_new (o := .lst ((List.range m).map fun (n : Nat) => V.int (n : Int))) hpl
  have gpl : (upd H5 pl (.lst ((List.range m).map fun (n : Nat) => V.int (n : Int)))) pl = some (.lst ((List.range m).map fun (n : Nat) => V.int (n : Int))) := upd_same
  generalize upd H5 pl (.lst ((List.range m).map fun (n : Nat) => V.int (n : Int))) = H6 at *
  have s46 := s5.trans s6
  refine ⟨.ref t, rfl, .ref o, rfl, o, _, rfl, dget (s46 _ _ hO) v3, ?_⟩
  refine ⟨o, pl, t, tw, b, m, ms, ks, ns, ws, Ms, rfl, hB4.same s46, ok, gpl, s46 _ _ ht4, s46 _ _ hW, fun r H7 s7 nr hR => ?_⟩
  refine ⟨r, b, m, ns, ks, ws, Ms, rfl, hR, ok.names hn, fun H8 s8 => ?_⟩
  have s48 := (s46.trans s7).trans s8
  have hY8 := hY.same s48
  have hX8 := hX4.same s48
  have hB8 := hB4.same s48
  obtain ⟨dy, t1', t2', a1', a2', fs', kv2', hy, _, f1', f2', f3', g1', f4', g2', f5', g3', f6', g4', g5', n1', n2'⟩ := id hY8.obj
  obtain ⟨dx, u1, u2, c1', c2', gs, kw2, hx, _, e1', _⟩ := id hX8.obj
  refine ⟨.non, rfl, rfl, ?_⟩
  refine ⟨_, rfl, ?_⟩
  refine iteF ?_
  refine ⟨.ref y, rfl, _, _, _, _, true, rfl, .own T.c_Book, .base (.ins hy XT.cl XT.ca XT.ec.hn XT.ec.ht XT.ob), XT.kb, ?_⟩
  refine ⟨_, rfl, ?_⟩
  refine iteF ?_
  refine ⟨.ref y, rfl, y, T.c_Book, dy, fs', _, rfl, hy, XT.cl, XT.na1, f1', .str (bookText b ns ws ks Ms), rfl, rfl, _, rfl, ?_⟩
  rw [decide_eq_true rfl]
  refine iteF ?_
  dsimp only [tNext, tSeq]
  obtain ⟨kvs8, tm8, tw8, hO8, v28, hM8, v38, hW8⟩ := hl hB8
  have nr8 : ∀ x ∈ ms.map V.str, NearV H8 x := fun x hx => by
    obtain ⟨z, hz, rfl⟩ := List.mem_map.mp hx
    exact nsc (Nat.le_trans (ok.nm.is z hz).2.1 (by decide))
  refine ⟨.ref y, rfl, .ref o, rfl, o, _, rfl, dget hO8 v28, ?_⟩
  refine ⟨y, .ref tm8, _, b, m, ns, ks, ws, Ms, rfl, hY8, hb, .inr (.inl ⟨_, hM8⟩), fun a xs ea ha => ?_, .inl ⟨tm8, ms, rfl, hM8, ok.nm, fun y2 H9 s9 ny2 hY2 => ?_⟩⟩
  · cases ea
    rw [hM8] at ha
    cases ha
    exact ⟨nr8, by rw [List.length_map]; omega⟩
  have hX9 := hX8.same s9
  have hB9 := hB8.same s9
  obtain ⟨dz, w1, w2, w3, w4, hs, kz, hz, _⟩ := id hY2.obj
  obtain ⟨dx9, u19, u29, c19, c29, gs9, kw29, hx9, _, e19, _⟩ := id hX9.obj
  refine ⟨.ref x, rfl, y2, dz, hs, rfl, hz, .inl ⟨x, dx9, gs9, rfl, hx9⟩, ?_⟩
  refine ⟨y2, x, _, _, b, b, _, _, _, _, rfl, hY2.obj, hX9.obj, _, rfl, ?_⟩
  rw [decide_eq_true rfl]
  refine ⟨_, rfl, ?_⟩
  refine iteT ?_
  refine ⟨.ref x, rfl, x, T.c_Book, dx9, gs9, _, rfl, hx9, XT.cl, XT.na1, e19, ?_⟩
  refine ⟨.ref o, rfl, o, b, m, ms, ks, ws, Ms, rfl, hB9, ok, fun H10 s10 => ?_⟩
  refine ⟨rfl, ?_⟩
  show Q (.bl (decide _)) H10
  rw [decide_eq_true rfl]
  have sF := ((s34.trans s48).trans s9).trans s10
  exact q H10 (e2.trans (ExtN.of sF)) (hT2.ext sF)
end
end OG
set_option Elab.async false
set_option linter.all false
set_option maxRecDepth 100000
set_option maxHeartbeats 4000000
namespace OGX
open PySem PySem.Spec PyProof.Rows L2
section
variable {X : Cx}
/-- xs == []: whatever the items are -/
def rEqNil (K : PySem.W.Frag) : R2 := fun x y H Q => ∃ (a b : Addr) (xs : List V), x = .ref a ∧ y = .ref b ∧ SqL K H a xs ∧ SqL K H b [] ∧ Q (.bl xs.isEmpty) H
theorem op_eqNil (hu : X.A.units + 64 < cLine) : OpR X (compareOp .Eq) (rEqNil X.K) := by
  intro pins s σ H x y v u Q I rx ry h
  obtain ⟨a, b, xs, rfl, rfl, h1, h2, q⟩ := h
  cases rx
  cases ry
  obtain ⟨its, r1, p1, _⟩ := I.list h1
  obtain ⟨its2, r2, p2, _⟩ := I.list h2
  cases r2
  cases r1 with
  | nil => exact SeqAt.eq_listAt (e := fun _ => true) p1.isList p2.isList rfl (by omega) (fun j h1 _ => absurd h1 (by simp)) ⟨.bl _, H, I, rfl, q⟩
  | cons r rs => exact SeqAt.eq_list_lengthsAt p1.isList p2.isList (by simp) (by omega) ⟨.bl _, H, I, rfl, q⟩
end
end OGX
set_option Elab.async false
set_option linter.all false
set_option maxRecDepth 100000
set_option maxHeartbeats 8000000
namespace OG
open PySem PySem.Spec PyProof.Rows L2 LamX
/-- a due: its word, its value, whether it is fine -/
abbrev Due := Str × V × Bool
def dueT (u : Due) : HO := .tup [.str u.1, u.2.1, .bl u.2.2]
/-- the lambda returns, whatever it is called in -/
def Rtn (tl : XK → Hp → VK → Prop) (H : Hp) : Prop := ∀ (E : XK) (Qk : VK), (∀ v H', Same H H' → Qk v H') → tl E H Qk
/-- the lambda raises C with v -/
def Rai (tl : XK → Hp → VK → Prop) (H : Hp) (C : Addr) (v : V) : Prop := ∀ (E : XK) (Qk : VK), (∀ d H', Same H H' → H' d = some (.xd [("value", v)]) → E (.ref C) (some d) H') → tl E H Qk
def TRefu {K : PySem.W.Frag} {mg : Str → Option Value} (T : Txt K mg) : (XK → Hp → VK → Prop) → List V → Hp → VK → Prop := fun tl vs H Q => ∃ (p D : Addr) (as : List Addr) (us : List Due), vs = [.ref D] ∧ H D = some (.lst (as.map V.ref)) ∧ as.length = us.length ∧ us.length ≤ 3 ∧ (∀ (i : Nat) (a : Addr), as[i]? = some a → ∃ u, us[i]? = some u ∧ H a = some (dueT u)) ∧ (∀ u ∈ us, Val K p H u.2.1 ∧ (u.1 = "kind" ∨ u.1 = "mark")) ∧
  (∀ H1, Same H H1 → ((us.filter fun u => !u.2.2) = [] ∧ Rtn tl H1) ∨ ∃ u r, (us.filter fun u => !u.2.2) = u :: r ∧ ((u.1 = "kind" ∧ Rai tl H1 T.c_NoKind u.2.1) ∨ (u.1 = "mark" ∧ Rai tl H1 T.c_NoMark u.2.1))) ∧
  ∀ H', Same H H' → Q (.bl true) H'
section
variable {P : Program} {w : World} {K : PySem.W.Frag} {mg : Str → Option Value} {base : Heap}
theorem refusal_hands {T : Txt K mg} (XM : TxtM K mg T) {kk : Nat} {g : Addr} {cdg : Value} {q : Str} : OGX.Hands kk P w K mg base ["call", "dues", "caught", "word", "value", "due", "is_it", "is_fine"] "_law_is_refusal" (defScope s_l_is_refusal) g cdg (defBody s_l_is_refusal) "_law_heard" "call" q (THeard K T.c_GateError) (TRefu T) := by
  intro A outer f c' s H vs Q tl hG hr pass hc h
  obtain ⟨p, D, as, us, rfl, hD, hl, hu3, hAs, hUs, hcase, q⟩ := h
  have tc : ∀ u ∈ us, Val K p H u.2.1 := fun u hu => (hUs u hu).1
  obtain ⟨t2, d2, r2⟩ : ∃ t2, PSs (cxOf C8.CX0 P w K mg base ["call", "dues", "caught", "word", "value", "due", "is_it", "is_fine"] "_law_is_refusal" (defScope s_l_is_refusal) g cdg A outer s H C8.E0).nox ((defBody s_l_is_refusal).drop 1) t2 ∧
      ∀ (cv : V) (H5 : Hp), Same H H5 → (((us.filter fun u => !u.2.2) = [] ∧ cv = .non) ∨ ∃ (u : Due) (r : List Due) (a C d : Addr), (us.filter fun u => !u.2.2) = u :: r ∧ cv = .ref a ∧ H5 a = some (OGX.ExV (.ref C) (some d) a) ∧ H5 d = some (.xd [("value", u.2.1)]) ∧ ((u.1 = "kind" ∧ C = T.c_NoKind) ∨ (u.1 = "mark" ∧ C = T.c_NoMark))) →
        t2 { nx := fun _ H' => Q .non H', rt := Q } [some (.ref f), some (.ref D), some cv, none, none, none, none, none] H5 := by
    refine ⟨_, (pss_cons (ps_setLc (i := 5) (own := [("word", 3), ("value", 4), ("is_fine", 7)]) (by rfl) sc_l_is_refusal.nd rfl rfl (sw_true rfl rfl rfl (by decide +kernel)) (pi_list (pv 1)) (blkOk_by (own := [("word", 3), ("value", 4), ("is_fine", 7)]) (by rfl)) (fun _ _ _ _ _ => (pg_tupK K (n := 3) (by rfl) (pgs_cons (pg_name (i := 3) sc_l_is_refusal.nd rfl (Or.inl rfl)) (pgs_cons (pg_name (i := 4) sc_l_is_refusal.nd rfl (Or.inl rfl)) (pgs_cons (pg_name (i := 7) sc_l_is_refusal.nd rfl (Or.inl rfl)) pgs_nil))))) (fun _ _ _ _ _ => (pts_one (pt_not (pt_val (pv 7))))) (fun _ _ _ _ _ => (pe_tup (pa_cons (pv 3) (pa_cons (pv 4) pa_nil)))))
  (pss_cons (ps_if (pt_cmpR (OGX.op_eqNil hr.units) (pv 5) (pe_lst pa_nil) (nomark _)) (pss_one (ps_ret (pe_cmpR op_isN (pv 2) pe_non (nomark _)))) pss_nil)
  (pss_cons (ps_asg (pe_ix ix_list (pv 5) pe_int (fun _ _ => rfl)) (pg_tup (by rfl) (pgs_cons (pg_name (i := 3) sc_l_is_refusal.nd rfl (Or.inl rfl)) (pgs_cons (pg_name (i := 4) sc_l_is_refusal.nd rfl (Or.inl rfl)) pgs_nil))))
  (pss_cons (ps_set (i := 6) sc_l_is_refusal.nd rfl (Or.inl rfl) (pe_callB OGX.call_isK (by rfl) T.n_isinstance (by decide +kernel) (pa_cons (pv 2) (pa_cons (C8.pe_gc (v := .ref T.c_NoMark) (by rfl) ⟨_, T.g_NoMark, rfl⟩) pa_nil))))
  (pss_cons (ps_if (pt_cmpR op_eq (pv 3) pe_str (nomark _)) (pss_one (ps_set (i := 6) sc_l_is_refusal.nd rfl (Or.inl rfl) (pe_callB OGX.call_isK (by rfl) T.n_isinstance (by decide +kernel) (pa_cons (pv 2) (pa_cons (C8.pe_gc (v := .ref T.c_NoKind) (by rfl) ⟨_, T.g_NoKind, rfl⟩) pa_nil))))) pss_nil)
  (pss_one (ps_ret (pe_and (pv 6) (pe_one (pe_cmpR op_eq (pe_callB (OGX.call_reprV hG hr.units) (by rfl) T.n_repr (by decide +kernel) (pa_cons (OGX.pe_xvA (pv 2)) pa_nil)) (pe_callB (OGX.call_reprV hG hr.units) (by rfl) T.n_repr (by decide +kernel) (pa_cons (pv 4) pa_nil)) (nomark _))))))))))), fun cv H5 s5 hcv => ?_⟩
    have hD5 := s5 _ _ hD
    refine ⟨.ref D, rfl, D, rfl, ⟨_, SqL.of hD5⟩, fun L hL => ?_⟩
    refine lc_list (K := K) (a := D) (xs := as.map V.ref) (fun i H' => Same H5 H' ∧ ∃ ps : List Addr, H' L = some (.lst (ps.map V.ref)) ∧ ps.length = ((us.take i).filter fun u => !u.2.2).length ∧ ∀ (j : Nat) (a : Addr), ps[j]? = some a → ∃ u : Due, ((us.take i).filter fun u => !u.2.2)[j]? = some u ∧ H' a = some (.tup [.str u.1, u.2.1]))
      ⟨same_new hL, [], upd_same, rfl, fun j a h => by simp at h⟩ (fun i H' _ ⟨s, _⟩ => SqL.of (s _ _ hD5)) ?_ ?_
    · rintro i x H6 hx ⟨s6, ps, g1, g2, g3⟩
      obtain ⟨a, ha, rfl⟩ : ∃ a, as[i]? = some a ∧ x = .ref a := by
        rw [List.getElem?_map] at hx
        cases e : as[i]? with
        | none =>
          rw [e] at hx
          cases hx
        | some a =>
          rw [e] at hx
          exact ⟨a, rfl, (Option.some.inj hx).symm⟩
      obtain ⟨u, hu, hau⟩ := hAs i a ha
      have ha6 := s6 _ _ (s5 _ _ hau)
      obtain ⟨wd, vv, fb⟩ := u
      refine ⟨a, _, rfl, SqT.of ha6, rfl, _, _, rfl, _, _, rfl, _, _, rfl, rfl, ?_⟩
      refine ⟨rfl, ?_⟩
      refine ⟨.bl fb, rfl, fb, rfl, ?_⟩
      have tm : us.take (i + 1) = us.take i ++ [(wd, vv, fb)] := take_more hu
      cases fb with
      | true =>
        refine iteF ?_
        refine ⟨s6, ps, g1, ?_⟩
        rw [tm, List.filter_append]
        rw [show ([((wd, vv, true) : Due)].filter fun u => !u.2.2) = [] from rfl, List.append_nil]
        exact ⟨g2, g3⟩
      | false =>
        refine iteT ?_
        refine ⟨_, rfl, _, rfl, Nat.le_trans (show 2 ≤ 1000 by decide) (by decide), fun t ht => ?_⟩
        have sT := same_new (o := .tup [.str wd, vv]) ht
        have gt : (upd H6 t (.tup [.str wd, vv])) t = some (.tup [.str wd, vv]) := upd_same
        generalize upd H6 t (.tup [.str wd, vv]) = H7 at *
        have gL := sT _ _ g1
        have pl : ps.length ≤ 3 := by
          rw [g2]
          exact Nat.le_trans (List.length_filter_le _ _) (by rw [List.length_take]; omega)
        refine ⟨_, gL, by rw [List.length_map]; exact small1000 (by omega), fun b o e => ?_, ps ++ [t], ?_, ?_, fun j a' hj => ?_⟩
        · rw [upd_ne (ne_of_none e hL)]
          exact sT _ _ (s6 _ _ e)
        · rw [upd_same, List.map_append]
          rfl
        · rw [tm, List.filter_append, List.length_append, List.length_append, g2]
          rfl
        · have tL : t ≠ L := fun z => by
            rw [z, gL] at gt
            cases gt
          rw [tm, List.filter_append, show ([((wd, vv, false) : Due)].filter fun u => !u.2.2) = [(wd, vv, false)] from rfl]
          by_cases hjl : j < ps.length
          · rw [List.getElem?_append_left hjl] at hj
            obtain ⟨u, e1, e2⟩ := g3 j a' hj
            exact ⟨u, by rw [List.getElem?_append_left (by omega)]; exact e1, by rw [upd_ne (fun z => by rw [z, g1] at e2; cases e2)]; exact sT _ _ e2⟩
          · rw [List.getElem?_append_right (by omega)] at hj
            have j0 : j - ps.length = 0 := by
              have := (List.getElem?_eq_some_iff.mp hj).1
              simp only [List.length_singleton] at this
              omega
            rw [j0] at hj
            have e := Option.some.inj hj
            subst e
            exact ⟨(wd, vv, false), by rw [List.getElem?_append_right (by omega), show j - ((us.take i).filter fun u => !u.2.2).length = 0 by omega]; rfl, by rw [upd_ne tL]; exact gt⟩
    · rintro H6 ⟨s6, ps, g1, g2, g3⟩
      rw [List.length_map, hl, List.take_length] at g2 g3
      refine ⟨.ref L, rfl, Nat.zero_le _, fun L2 hL2 => ?_⟩
      have s7 := same_new (o := .lst []) hL2
      have e7 : (upd H6 L2 (.lst [])) L2 = some (.lst []) := upd_same
      generalize upd H6 L2 (.lst []) = H7 at *
      have gL := s7 _ _ g1
      refine ⟨L, L2, _, rfl, rfl, SqL.of gL, SqL.of e7, _, rfl, ?_⟩
      have s57 := s6.trans s7
      rcases hcv with ⟨hnil, rfl⟩ | ⟨u, r, a, C, d, hfil, rfl, hA, hdd, hC⟩
      · rw [hnil] at g2
        have pn : ps = [] := List.length_eq_zero_iff.mp g2
        subst pn
        refine iteT ?_
        refine ⟨.non, rfl, rfl, ?_⟩
        show Q (.bl (decide (V.non = V.non))) H7
        rw [decide_eq_true rfl]
        exact q H7 (s5.trans s57)
      · rw [hfil] at g2 g3
        obtain ⟨p0, pr, rfl⟩ : ∃ p0 pr, ps = p0 :: pr := by
          cases ps with
          | nil => cases g2
          | cons p0 pr => exact ⟨p0, pr, rfl⟩
        obtain ⟨u', e1, e2⟩ := g3 0 p0 rfl
        have e1 := Option.some.inj e1
        subst e1
        have e2 := s7 _ _ e2
        have hA := s57 _ _ hA
        have hdd := s57 _ _ hdd
        have um : u ∈ us := (List.mem_filter.mp (by rw [hfil]; exact List.mem_cons_self)).1
        obtain ⟨dd, sh1, sh2, sh3, sh4⟩ := ((tc u um).same (s5.trans s57)).shd
        obtain ⟨wd, vv, fb⟩ := u
        have fin : ∀ H', H' = H7 → Q (.bl (decide (V.str dd.shown = V.str dd.shown))) H' := fun H' e => by
          rw [decide_eq_true rfl, e]
          exact q H7 (s5.trans s57)
        refine iteF ?_
        dsimp only [tNext, tSeq]
        refine ⟨.ref L, rfl, L, _, 0, .ref p0, rfl, rfl, SqL.of gL, atI_nat (j := 0) rfl, ?_⟩
        refine ⟨p0, _, rfl, SqT.of e2, rfl, _, _, rfl, _, _, rfl, rfl, ?_⟩
        rcases hC with ⟨hw, rfl⟩ | ⟨hw, rfl⟩
        · have hw : wd = "kind" := hw
          subst hw
          refine ⟨.ref a, rfl, a, T.c_NoKind, d, _, .ref T.c_NoMark, .ref T.c_NoMark, false, rfl, hA, hdd, XM.ecK, fun u r => r, XM.ktKM, ?_⟩
          refine ⟨.str "kind", rfl, rfl, _, rfl, ?_⟩
          rw [decide_eq_true rfl]
          refine iteT ?_
          refine ⟨.ref a, rfl, a, T.c_NoKind, d, _, .ref T.c_NoKind, .ref T.c_NoKind, true, rfl, hA, hdd, XM.ecK, fun u r => r, XM.ktKK, ?_⟩
          dsimp only [tNext, tSeq]
          refine ⟨.bl true, rfl, true, rfl, ?_⟩
          refine iteT ?_
          exact ⟨.ref a, rfl, T.c_NoKind, a, d, _, vv, rfl, hA, hdd, XM.xfK, XM.noK, rfl, vv, dd, rfl, sh1, sh2, sh3, sh4, vv, rfl, vv, dd, rfl, sh1, sh2, sh3, sh4, rfl, fin _ rfl⟩
        · have hw : wd = "mark" := hw
          subst hw
          refine ⟨.ref a, rfl, a, T.c_NoMark, d, _, .ref T.c_NoMark, .ref T.c_NoMark, true, rfl, hA, hdd, XM.ecM, fun u r => r, XM.ktMM, ?_⟩
          refine ⟨.str "mark", rfl, rfl, _, rfl, ?_⟩
          rw [decide_eq_false (by intro z; exact absurd (V.str.inj z) (by decide +kernel))]
          refine iteF ?_
          dsimp only [tNext, tSeq]
          refine ⟨.bl true, rfl, true, rfl, ?_⟩
          refine iteT ?_
          exact ⟨.ref a, rfl, T.c_NoMark, a, d, _, vv, rfl, hA, hdd, XM.xfM, XM.noM, rfl, vv, dd, rfl, sh1, sh2, sh3, sh4, vv, rfl, vv, dd, rfl, sh1, sh2, sh3, sh4, rfl, fin _ rfl⟩
  refine ⟨_, pss_cons (ps_set (i := 2) sc_l_is_refusal.nd rfl (Or.inl rfl) (pe_ix ix_tup (pass _ _ _) pe_int (fun _ _ => rfl))) d2, ?_⟩
  refine ⟨rfl, hc, fun H1 s1 => ?_⟩
  rcases hcase H1 s1 with ⟨hnil, hret⟩ | ⟨u, r, hfil, hrai⟩
  · refine hret _ _ fun v H2 s2 t ht => ?_
    have sT := same_new (o := .tup [.non, v]) ht
    exact ⟨t, _, 0, .non, rfl, rfl, SqT.of upd_same, rfl, r2 _ _ ((s1.trans s2).trans sT) (.inl ⟨hnil, rfl⟩)⟩
  · rcases hrai with ⟨hw, hr1⟩ | ⟨hw, hr1⟩
    · refine hr1 _ _ fun d H2 s2 hd => ⟨true, XM.teK, fun _ a ha t ht => ?_, fun z => by cases z⟩
      have sE := same_new (o := OGX.ExV (.ref T.c_NoKind) (some d) a) ha
      have sT := same_new (o := .tup [.ref a, .non]) ht
      refine ⟨t, _, 0, .ref a, rfl, rfl, SqT.of upd_same, rfl, r2 _ _ (((s1.trans s2).trans sE).trans sT) (.inr ⟨u, r, a, T.c_NoKind, d, hfil, rfl, sT _ _ upd_same, sT _ _ (sE _ _ hd), .inl ⟨hw, rfl⟩⟩)⟩
    · refine hr1 _ _ fun d H2 s2 hd => ⟨true, XM.teM, fun _ a ha t ht => ?_, fun z => by cases z⟩
      have sE := same_new (o := OGX.ExV (.ref T.c_NoMark) (some d) a) ha
      have sT := same_new (o := .tup [.ref a, .non]) ht
      refine ⟨t, _, 0, .ref a, rfl, rfl, SqT.of upd_same, rfl, r2 _ _ (((s1.trans s2).trans sE).trans sT) (.inr ⟨u, r, a, T.c_NoMark, d, hfil, rfl, sT _ _ upd_same, sT _ _ (sE _ _ hd), .inr ⟨hw, rfl⟩⟩)⟩
end
end OG
set_option Elab.async false
set_option linter.all false
set_option maxRecDepth 100000
set_option maxHeartbeats 8000000
namespace OG
open PySem PySem.Spec PyProof.Rows L2
/-- values beside the pot, that look at none of the addresses Fs -/
def VlsW (K : PySem.W.Frag) (p : Addr) (Fs : Addr → Prop) (H : Hp) (xs : List V) : Prop := Vls K p H xs ∧ ∀ F, Fs F → F ≠ p ∧ (∃ o, H F = some o) ∧ Vls K p (Hm F H) xs
theorem hm_upd {F a : Addr} {H : Hp} {o : HO} (n : a ≠ F) : Hm F (_root_.L2.upd H a o) = _root_.L2.upd (Hm F H) a o := by
  funext b
  by_cases hb : b = F
  · rw [hb]
    unfold Hm
    rw [if_pos rfl, upd_ne (fun z => n z.symm), if_pos rfl]
  · by_cases ha : b = a
    · rw [ha, Hm.ne n, upd_same, upd_same]
    · rw [Hm.ne hb, upd_ne ha, upd_ne ha, Hm.ne hb]
theorem hm_none {F a : Addr} {H : Hp} (n : H a = none) : Hm F H a = none := by
  unfold Hm
  split
  · rfl
  · exact n
theorem VlsW.nil {K : PySem.W.Frag} {p : Addr} {Fs : Addr → Prop} {H : Hp} (h : ∃ o, H p = some o) (hF : ∀ F, Fs F → F ≠ p ∧ ∃ o, H F = some o) : VlsW K p Fs H [] := ⟨Vls.nil h, fun F f => ⟨(hF F f).1, (hF F f).2, Vls.nil (by rw [Hm.ne (hF F f).1.symm]; exact h)⟩⟩
theorem VlsW.up {K : PySem.W.Frag} {p a : Addr} {Fs : Addr → Prop} {H : Hp} {xs ys : List V} {o : HO} (N : VlsW K p Fs H xs) (n : H a = none) (st : ∀ G, G a = none → Vls K p G xs → Vls K p (_root_.L2.upd G a o) ys) : VlsW K p Fs (_root_.L2.upd H a o) ys :=
  ⟨st _ n N.1, fun F f => by
    obtain ⟨h1, ⟨u, h2⟩, h3⟩ := N.2 F f
    have na : a ≠ F := fun z => by
      rw [z, h2] at n
      cases n
    exact ⟨h1, ⟨u, by rw [upd_ne na.symm]; exact h2⟩, by rw [hm_upd na]; exact st _ (hm_none n) h3⟩⟩
theorem VlsW.up2 {K : PySem.W.Frag} {p a b : Addr} {Fs : Addr → Prop} {H : Hp} {xs ys : List V} {o o' : HO} (N : VlsW K p Fs H xs) (n : H a = none) (n2 : H b = none) (st : ∀ G, G a = none → G b = none → Vls K p G xs → Vls K p (_root_.L2.upd (_root_.L2.upd G a o) b o') ys) : VlsW K p Fs (_root_.L2.upd (_root_.L2.upd H a o) b o') ys :=
  ⟨st _ n n2 N.1, fun F f => by
    obtain ⟨h1, ⟨u, h2⟩, h3⟩ := N.2 F f
    have na : a ≠ F := fun z => by
      rw [z, h2] at n
      cases n
    have nb : b ≠ F := fun z => by
      rw [z, h2] at n2
      cases n2
    exact ⟨h1, ⟨u, by rw [upd_ne nb.symm, upd_ne na.symm]; exact h2⟩, by rw [hm_upd nb, hm_upd na]; exact st _ (hm_none n) (hm_none n2) h3⟩⟩
theorem VlsW.same {K : PySem.W.Frag} {p : Addr} {Fs : Addr → Prop} {H H' : Hp} {xs : List V} (N : VlsW K p Fs H xs) (s : Same H H') : VlsW K p Fs H' xs := ⟨N.1.same s, fun F f => by
  obtain ⟨h1, ⟨u, h2⟩, h3⟩ := N.2 F f
  exact ⟨h1, ⟨u, s _ _ h2⟩, h3.same (Hm.mono s)⟩⟩
theorem VlsW.map {K : PySem.W.Frag} {p : Addr} {Fs : Addr → Prop} {H : Hp} {xs ys : List V} (N : VlsW K p Fs H xs) (st : ∀ G, Vls K p G xs → Vls K p G ys) : VlsW K p Fs H ys := ⟨st _ N.1, fun F f => ⟨(N.2 F f).1, (N.2 F f).2.1, st _ (N.2 F f).2.2⟩⟩
theorem VlsW.app {K : PySem.W.Frag} {p : Addr} {Fs : Addr → Prop} {H : Hp} {xs ys : List V} (N : VlsW K p Fs H xs) (M : VlsW K p Fs H ys) : VlsW K p Fs H (xs ++ ys) := ⟨N.1.app M.1, fun F f => ⟨(N.2 F f).1, (N.2 F f).2.1, (N.2 F f).2.2.app (M.2 F f).2.2⟩⟩
section
variable {P : Program} {w : World} {K : PySem.W.Frag} {mg : Str → Option Value} {base : Heap}
def spOddW (K : PySem.W.Frag) : Sp := fun vs H Q _ => ∃ (p : Addr) (k : Nat), vs = [.ref p] ∧ Pot (k + 1) H p ∧ ∀ (v : V) (H' : Hp), Dr p k H H' → Val K p H' v → (∀ F, F ≠ p → (∃ o, H F = some o) → Val K p (Hm F H') v) → Q v H'
theorem ok_l_odd2 (T : Txt K mg) : FnOk P w K mg base CX0 3 T.f_l_odd T.fd_l_odd ["pot"] (spOddW K) := by
  refine T.F_l_odd.ok sc_l_odd (fun vs H Q E h => ?_) (fun cdv A outer s H vs Q E hr h => ?_)
  · obtain ⟨p, k, rfl, _⟩ := h
    rfl
  · obtain ⟨p, k, rfl, hP, q⟩ := h
    refine ⟨_, (pss_cons (ps_set (i := 1) sc_l_odd.nd rfl (Or.inl rfl) (pe_lst (pa_cons pe_non (pa_cons pe_bl (pa_cons pe_bl (pa_cons pe_int (pa_cons pe_int (pa_cons (pe_un un_neg pe_int) (pa_cons pe_int (pa_cons (pe_op op_powW pe_int pe_int) (pa_cons pe_str (pa_cons pe_str (pa_cons pe_str (pa_cons pe_str (pa_cons pe_str (pa_cons pe_str (pa_cons (pe_tup pa_nil) (pa_cons (pe_lst pa_nil) (pa_cons pe_dnewK (pa_cons (pe_tup (pa_cons pe_int pa_nil)) pa_nil))))))))))))))))))))
  (pss_cons (ps_set (i := 1) sc_l_odd.nd rfl (Or.inl rfl) (pe_op op_cat (pv 1) (pe_lst (pa_cons (pe_tup (pa_cons pe_int (pa_cons pe_int pa_nil))) (pa_cons (pe_tup (pa_cons pe_int (pa_cons pe_int pa_nil))) (pa_cons (pe_tup (pa_cons pe_int (pa_cons pe_int pa_nil))) (pa_cons (pe_tup (pa_cons (pe_tup pa_nil) pa_nil)) (pa_cons (pe_lst (pa_cons pe_int pa_nil)) (pa_cons (pe_tup (pa_cons pe_non pa_nil)) (pa_cons (pe_disp (pps_cons pe_str pe_int pps_nil) (by rfl) (by rfl) (fun z => by cases z) (by decide)) (pa_cons (pe_tup (pa_cons pe_bl pa_nil)) (pa_cons (pe_tup (pa_cons pe_str pa_nil)) (pa_cons (pe_tup (pa_cons pe_str (pa_cons pe_str pa_nil))) (pa_cons pe_str (pa_cons pe_str pa_nil)))))))))))))))
  (pss_one (ps_ret (pe_call (ok_l_of T) (hr.mono (by decide)) (by rfl) T.g_l_of T.F_l_of.kp T.b_l_of .nil pass0 (pa_cons (pv 0) (pa_cons (pv 1) pa_nil))))))), ?_⟩
    refine ⟨_, rfl, _, _, rfl, rfl, pow_c (by decide), ?_⟩
    refine ⟨Nat.zero_le _, fun a1 n1 => ⟨Nat.zero_le _, fun a2 n2 => fun a3 n3 => ⟨Nat.le_trans (show 1 ≤ 1000 by decide) (by decide), fun a4 n4 => ⟨Nat.le_trans (show 18 ≤ 1000 by decide) (by decide), fun l1 hl1 => ?_⟩⟩⟩⟩
    have N1 := (VlsW.nil (K := K) (p := p) (Fs := fun F => F ≠ p ∧ ∃ o, H F = some o) ⟨_, hP.lst.choose_spec⟩ fun F f => f).up n1 fun G nG N => vnT (a := a1) (vs := []) nG N .nil (by decide)
    have N2 := N1.up n2 fun G nG N => vnL (vs := []) nG N .nil (by decide)
    have N3 := N2.up n3 fun G nG N => vnD (kvs := []) nG N (.inl rfl)
    have N4 := N3.up n4 fun G nG N => vnT (vs := [.int 0]) nG N (.cons (lfi 0 (by decide +kernel)) .nil) (by decide)
    have s4 := (same_new (o := .tup []) n1).trans ((same_new (o := .lst []) n2).trans ((same_new (o := .dK []) n3).trans (same_new (o := .tup [.int 0]) n4)))
    obtain ⟨xs1, hxs1⟩ : ∃ xs : List V, xs = [.non, .bl true, .bl false, .int 0, .int 1, .int (-1), .int 7, .int (10 ^ (8 : Int).toNat), .str "", .str "a", .str "x", .str "script", .str "script\nx = one", .str "same", .ref a1, .ref a2, .ref a3, .ref a4] := ⟨_, rfl⟩
    have h1 : (upd (upd (upd (upd (upd H a1 (.tup [])) a2 (.lst [])) a3 (.dK [])) a4 (.tup [.int 0])) l1 (.lst xs1)) l1 = some (.lst xs1) := upd_same
    rw [← hxs1]
    have A1 : VlsW K p (fun F => F ≠ p ∧ ∃ o, H F = some o) (upd (upd (upd (upd H a1 (.tup [])) a2 (.lst [])) a3 (.dK [])) a4 (.tup [.int 0])) xs1 := N4.map fun G N4 => by
      have r4 : ∀ {x}, x ∈ [V.ref a4, .ref a3, .ref a2, .ref a1] → Val K p _ x := fun {x} hx => N4.2 x hx
      rw [hxs1]
      refine .cons (lf_non.val fun a h => by cases h) (.cons ((lf_bl true).val fun a h => by cases h) (.cons ((lf_bl false).val fun a h => by cases h) (.cons (lfi _ (by decide +kernel)).vi (.cons (lfi _ (by decide +kernel)).vi (.cons (lfi _ (by decide +kernel)).vi (.cons (lfi _ (by decide +kernel)).vi (.cons (lfi _ (by decide +kernel)).vi (.cons (lfs _ (by decide +kernel)).vs (.cons (lfs _ (by decide +kernel)).vs (.cons (lfs _ (by decide +kernel)).vs (.cons (lfs _ (by decide +kernel)).vs (.cons (lfs _ (by decide +kernel)).vs (.cons (lfs _ (by decide +kernel)).vs ?_)))))))))))))
      exact .cons (r4 (by simp)) (.cons (r4 (by simp)) (.cons (r4 (by simp)) (.cons (r4 (by simp)) (.nil N4.1))))
    have lx1 : xs1.length = 18 := by
      rw [hxs1]
      rfl
    have s5 := same_new (o := .lst xs1) hl1
    have A1 := A1.same s5
    have sA := s4.trans s5
    generalize upd (upd (upd (upd (upd H a1 (.tup [])) a2 (.lst [])) a3 (.dK [])) a4 (.tup [.int 0])) l1 (.lst xs1) = H1 at *
    refine ⟨.ref l1, rfl, ⟨Nat.le_trans (show 2 ≤ 1000 by decide) (by decide), fun b1 m1 => ⟨Nat.le_trans (show 2 ≤ 1000 by decide) (by decide), fun b2 m2 => ⟨Nat.le_trans (show 2 ≤ 1000 by decide) (by decide), fun b3 m3 => ⟨Nat.zero_le _, fun b4 m4 => ⟨Nat.le_trans (show 1 ≤ 1000 by decide) (by decide), fun b5 m5 => ⟨Nat.le_trans (show 1 ≤ 1000 by decide) (by decide), fun b6 m6 => ⟨Nat.le_trans (show 1 ≤ 1000 by decide) (by decide), fun b7 m7 => ?_⟩⟩⟩⟩⟩⟩⟩⟩
    have M1 := (A1.map fun G N => Vls.nil N.1).up m1 fun G nG N => vnT (vs := [.int 0, .int 1]) nG N (.cons (lfi 0 (by decide +kernel)) (.cons (lfi 1 (by decide +kernel)) .nil)) (by decide)
    have M2 := M1.up m2 fun G nG N => vnT (vs := [.int 1, .int 0]) nG N (.cons (lfi 1 (by decide +kernel)) (.cons (lfi 0 (by decide +kernel)) .nil)) (by decide)
    have M3 := M2.up m3 fun G nG N => vnT (vs := [.int 1, .int 1]) nG N (.cons (lfi 1 (by decide +kernel)) (.cons (lfi 1 (by decide +kernel)) .nil)) (by decide)
    have M5 := M3.up2 (ys := [.ref b5, .ref b4, .ref b3, .ref b2, .ref b1]) (o := .tup []) (o' := .tup [.ref b4]) m4 (by
      cases e : (upd (upd (upd H1 b1 (.tup [.int 0, .int 1])) b2 (.tup [.int 1, .int 0])) b3 (.tup [.int 1, .int 1])) b5 with
      | none => rfl
      | some o =>
        rw [same_new (o := .tup []) m4 _ _ e] at m5
        cases m5) fun G g1 g2 N => by
      have nn : b5 ≠ b4 := fun z => by
        rw [z, upd_same] at m5
        cases m5
      have g2 : (upd G b4 (.tup [])) b5 = none := by rw [upd_ne nn]; exact g2
      have M4 := vnT (vs := []) g1 N .nil (by decide)
      exact Vls.cons (val_tup upd_same (M4.fresh g2) (fun x hx => by rw [List.mem_singleton.mp hx]; exact itm_tup (same_new g2 _ _ upd_same) (N.fresh g1) .nil (by decide)) (by show 1 ≤ 20; decide)) (M4.same (same_new g2))
    have M6 := M5.up m6 fun G nG N => vnL (vs := [.int 0]) nG N (.cons (lfi 0 (by decide +kernel)) .nil) (by decide)
    have M7 := M6.up m7 fun G nG N => vnT (vs := [.non]) nG N (.cons lf_non .nil) (by decide)
    have t7 := (same_new (o := .tup [.int 0, .int 1]) m1).trans ((same_new (o := .tup [.int 1, .int 0]) m2).trans ((same_new (o := .tup [.int 1, .int 1]) m3).trans ((same_new (o := .tup []) m4).trans ((same_new (o := .tup [.ref b4]) m5).trans ((same_new (o := .lst [.int 0]) m6).trans (same_new (o := .tup [.non]) m7))))))
    refine fun b8 m8 => ⟨upd_same, [(.inr "a", .int 1)], rfl, by decide, ?_⟩
    have M8 : VlsW K p (fun F => F ≠ p ∧ ∃ o, H F = some o) (upd (upd _ b8 (.dK [])) b8 (.dK (mergeK [] [(.inr "a", .int 1)]))) [.ref b8, .ref b7, .ref b6, .ref b5, .ref b4, .ref b3, .ref b2, .ref b1] := M7.up2 m8 m8 fun G nG _ N => Vls.cons (K := K) (p := p) (x := .ref b8) (val_dic (kvs := mergeK [] [(.inr "a", .int 1)]) upd_same (N.fresh nG) (.inr rfl)) (N.same (same_put (u := .dK []) (o := .dK (mergeK [] [(.inr "a", .int 1)])) nG))
    have t8 := t7.trans (same_put (u := .dK []) (o := .dK (mergeK [] [(.inr "a", .int 1)])) m8)
    refine ⟨Nat.le_trans (show 1 ≤ 1000 by decide) (by decide), fun b9 m9 => ⟨Nat.le_trans (show 1 ≤ 1000 by decide) (by decide), fun b10 m10 => ⟨Nat.le_trans (show 2 ≤ 1000 by decide) (by decide), fun b11 m11 => ⟨Nat.le_trans (show 12 ≤ 1000 by decide) (by decide), fun l2 hl2 => ?_⟩⟩⟩⟩
    have M9 := M8.up m9 fun G nG N => vnT (vs := [.bl true]) nG N (.cons (lf_bl true) .nil) (by decide)
    have M10 := M9.up m10 fun G nG N => vnT (vs := [.str "a"]) nG N (.cons (lfs "a" (by decide +kernel)) .nil) (by decide)
    have M11 := M10.up m11 fun G nG N => vnT (vs := [.str "a", .str "b"]) nG N (.cons (lfs "a" (by decide +kernel)) (.cons (lfs "b" (by decide +kernel)) .nil)) (by decide)
    have t11 := t8.trans ((same_new (o := .tup [.bl true]) m9).trans ((same_new (o := .tup [.str "a"]) m10).trans (same_new (o := .tup [.str "a", .str "b"]) m11)))
    obtain ⟨xs2, hxs2⟩ : ∃ xs : List V, xs = [.ref b1, .ref b2, .ref b3, .ref b5, .ref b6, .ref b7, .ref b8, .ref b9, .ref b10, .ref b11, .str "parts", .str "rows"] := ⟨_, rfl⟩
    rw [← hxs2]
    have A2' : VlsW K p (fun F => F ≠ p ∧ ∃ o, H F = some o) _ [.ref b1, .ref b2, .ref b3, .ref b5, .ref b6, .ref b7, .ref b8, .ref b9, .ref b10, .ref b11, .str "parts", .str "rows"] := M11.map fun G N => Vls.cons (N.2 (.ref b1) (by simp)) (Vls.cons (N.2 (.ref b2) (by simp)) (Vls.cons (N.2 (.ref b3) (by simp)) (Vls.cons (N.2 (.ref b5) (by simp)) (Vls.cons (N.2 (.ref b6) (by simp)) (Vls.cons (N.2 (.ref b7) (by simp)) (Vls.cons (N.2 (.ref b8) (by simp)) (Vls.cons (N.2 (.ref b9) (by simp)) (Vls.cons (N.2 (.ref b10) (by simp)) (Vls.cons (N.2 (.ref b11) (by simp)) (Vls.cons (lfs "parts" (by decide +kernel)).vs (Vls.cons (lfs "rows" (by decide +kernel)).vs (Vls.nil N.1))))))))))))
    rw [← hxs2] at A2'
    have lx2 : xs2.length = 12 := by
      rw [hxs2]
      rfl
    have s12 := same_new (o := .lst xs2) hl2
    refine ⟨l1, l2, xs1, xs2, rfl, rfl, s12 _ _ (t11 _ _ h1), upd_same, by rw [lx1, lx2]; exact Nat.le_trans (show 30 ≤ 1000 by decide) (by decide), fun l3 hl3 => ?_⟩
    have s13 := same_new (o := .lst (xs1 ++ xs2)) hl3
    have sF := ((sA.trans t11).trans s12).trans s13
    have B := (((A1.same t11).app A2').same s12).same s13
    refine ⟨.ref p, rfl, .ref l3, rfl, p, l3, xs1 ++ xs2, k, rfl, hP.same sF, SqL.of upd_same, (hP.same ((sA.trans t11).trans s12)).ne hl3, by rw [List.length_append, lx1, lx2]; decide, by rw [List.length_append, lx1, lx2]; decide, fun i x H' hx d => ?_⟩
    refine q x H' ⟨(Same.kp sF).trans d.1, d.2⟩ ((B.1.2 x (List.mem_of_getElem? hx)).dr (hP.same sF).lst d) fun F n f => ?_
    refine (((B.2 F ⟨n, f⟩).2.2).2 x (List.mem_of_getElem? hx)).dr ?_ (d.hm n)
    obtain ⟨ys, h⟩ := (hP.same sF).lst
    exact ⟨ys, by rw [Hm.ne n.symm]; exact h⟩
end
end OG
set_option Elab.async false
set_option linter.all false
set_option maxRecDepth 100000
set_option maxHeartbeats 8000000
namespace OG
open PySem PySem.Spec PyProof.Rows L2 LamX
theorem pe_imp {X : Cx} {e : Expr} {t t' : TE} (h : PE X e t) (i : ∀ σ H Q, t' σ H Q → t σ H Q) : PE X e t' := ⟨fun pins s σ H Q I q => h.run pins s σ H Q I (i σ H Q q)⟩
def tIsIn (i j : Nat) : TE := fun σ H Q => ∃ (v : V) (L : Addr) (l : List Str), σ[i]? = some (some v) ∧ σ[j]? = some (some (.ref L)) ∧ NearV H v ∧ H L = some (.lst (l.map V.str)) ∧ Q (.bl (inM v l)) H
theorem refu_len {K : PySem.W.Frag} {mg : Str → Option Value} {T : Txt K mg} : ∀ tl vs H Q, TRefu T tl vs H Q → vs.length = (["dues"] : List Str).length := fun _ _ _ _ ⟨_, _, _, _, e, _⟩ => by
  rw [e]
  rfl
theorem inM_nm {v : V} {l : List Str} (h : inM v l = true) : ∃ (z : Str) (i : Nat), v = .str z ∧ l[i]? = some z := by
  rw [inM_parts, Bool.and_eq_true] at h
  obtain ⟨h1, h2⟩ := h
  cases v with
  | str z =>
    rw [inV_str] at h2
    obtain ⟨i, hi⟩ := List.getElem?_of_mem (of_decide_eq_true h2)
    exact ⟨z, i, rfl, hi⟩
  | _ => cases h1
theorem wgt_sp {K : PySem.W.Frag} {mg : Str → Option Value} {T : Txt K mg} {H : Hp} {x : Addr} {z : Str} {b : Int} {m : Nat} {ms ks : List Str} {ws : List Int} {Ms : List (List (List Int))} (hX : BO T H x z b m ms ks ws Ms) {v : V} (hv : NearV H v) {Q : VK} {E : XK} (h1 : inM v ms = true → ∀ i, Q (.int i) H)
    (h2 : inM v ms = false → ∀ d H', Same H H' → H' d = some (.xd [("value", v)]) → E (.ref T.c_NoMark) (some d) H') : spWeight2 T [.ref x, v] H Q E := by
  obtain ⟨zk1, zk2, zk3⟩ := zipk hX.ok
  have hml := hX.ok.nm.len
  have hwl := hX.ok.wl
  cases e : inM v ms with
  | false => exact ⟨x, v, z, b, _, _, rfl, hv, hX.obj, .inr ⟨by rw [zk1]; exact e, h2 e⟩⟩
  | true =>
    obtain ⟨mk, i, rfl, hi⟩ := inM_nm e
    have := (List.getElem?_eq_some_iff.mp hi).1
    exact ⟨x, .str mk, z, b, _, _, rfl, hv, hX.obj, .inl ⟨mk, ws[i]'(by omega), rfl, valV_zip hX.ok.nm.nd hi (List.getElem?_eq_getElem (by omega)), h1 e _⟩⟩
theorem wor_sp {K : PySem.W.Frag} {mg : Str → Option Value} {T : Txt K mg} {H : Hp} {x : Addr} {z : Str} {b : Int} {m : Nat} {ms ks : List Str} {ws : List Int} {Ms : List (List (List Int))} (hX : BO T H x z b m ms ks ws Ms) {kd one oth : V} (hk : NearV H kd) (ho : NearV H one) (ht : NearV H oth) {Q : VK} {E : XK}
    (h0 : inM kd ks = true → inM one ms = true → inM oth ms = true → ∀ i, Q (.int i) H)
    (h1 : inM kd ks = false → ∀ d H', Same H H' → H' d = some (.xd [("value", kd)]) → E (.ref T.c_NoKind) (some d) H')
    (h2 : inM kd ks = true → inM one ms = false → ∀ d H', Same H H' → H' d = some (.xd [("value", one)]) → E (.ref T.c_NoMark) (some d) H')
    (h3 : inM kd ks = true → inM one ms = true → inM oth ms = false → ∀ d H', Same H H' → H' d = some (.xd [("value", oth)]) → E (.ref T.c_NoMark) (some d) H') : spWorth2 T [.ref x, kd, one, oth] H Q E := by
  obtain ⟨zk1, zk2, zk3⟩ := zipk hX.ok
  have hml := hX.ok.nm.len
  have hMl := hX.ok.ml
  refine ⟨x, kd, one, oth, z, b, _, _, rfl, hk, ho, ht, hX.obj, by rw [zk1]; exact hX.ok.nm.nd, by rw [zk2]; exact hX.ok.nk.nd, by rw [zk3]; exact hX.ok.m4, ?_⟩
  rw [zk1, zk2]
  cases ek : inM kd ks with
  | false => exact .inl ⟨rfl, h1 ek⟩
  | true =>
    cases eo : inM one ms with
    | false => exact .inr (.inl ⟨rfl, rfl, h2 ek eo⟩)
    | true =>
      cases et : inM oth ms with
      | false => exact .inr (.inr (.inl ⟨rfl, rfl, rfl, h3 ek eo et⟩))
      | true =>
        obtain ⟨k, a, rfl, ha⟩ := inM_nm ek
        obtain ⟨m1, i, rfl, hi⟩ := inM_nm eo
        obtain ⟨m2, j, rfl, hj⟩ := inM_nm et
        have la := (List.getElem?_eq_some_iff.mp ha).1
        have li := (List.getElem?_eq_some_iff.mp hi).1
        have lj := (List.getElem?_eq_some_iff.mp hj).1
        have eM : Ms[a]? = some (Ms[a]'(by omega)) := List.getElem?_eq_getElem (by omega)
        have mo := hX.mat _ (List.mem_of_getElem? eM)
        have kz : (ks.zip (Ms.map List.flatten))[a]? = some (k, (Ms[a]'(by omega)).flatten) := List.getElem?_zip_eq_some.mpr ⟨ha, by rw [List.getElem?_map, eM]; rfl⟩
        exact .inr (.inr (.inr ⟨k, m1, m2, a, i, j, _, _, rfl, rfl, rfl, kz, hi, hj, by rw [zk3]; exact mAt_get mo (by omega) (by omega), h0 ek eo et _⟩))
theorem tabS_kp {H H' : Hp} {p Pt : Addr} {q : Str} (t : TabS H Pt q) (hp : ∃ xs, H p = some (.lst xs)) (k : Kp p H H') : TabS H' Pt q := by
  obtain ⟨ys, hp⟩ := hp
  have ne : ∀ {b o}, H b = some o → (∀ xs, o ≠ .lst xs) → b ≠ p := fun {b o} e n z => by
    rw [z, hp] at e
    exact n ys (Option.some.inj e).symm
  obtain ⟨ps, h1, h2, h3⟩ := t
  refine ⟨ps, k _ _ (ne h1 fun xs z => by cases z) h1, h2, fun pos cv hc => ?_⟩
  obtain ⟨c, e1, e2⟩ := h3 pos cv hc
  exact ⟨c, e1, k _ _ (ne e2 fun xs z => by
    unfold CodeO at z
    cases z) e2⟩
theorem tabs_kp {H H' : Hp} {p : Addr} {TT : List (Addr × Str)} (t : Tabs TT H) (hp : ∃ xs, H p = some (.lst xs)) (k : Kp p H H') : Tabs TT H' := fun q hq => tabS_kp (t q hq) hp k
theorem due_nt {u : Due} (ps : Array Value) : dueT u ≠ .tbl ps := fun z => by
  unfold dueT at z
  cases z
/-- all but p and the tables stays -/
def KpN (p : Addr) (H H' : Hp) : Prop := ∀ b o, b ≠ p → H b = some o → (∀ ps, o ≠ .tbl ps) → H' b = some o
section
variable {P : Program} {w : World} {K : PySem.W.Frag} {mg : Str → Option Value} {base : Heap}
def spAsk (T : Txt K mg) (P1 P2 : Addr) : Sp := fun vs H Q _ => ∃ (p o x : Addr) (n : Nat) (b : Int) (m : Nat) (ms ks : List Str) (ws : List Int) (Ms : List (List (List Int))), vs = [.ref p, .ref o, .ref x] ∧ Pot (n + 10) H p ∧ BookAt H o b m ms ws ks Ms ∧ BkOk b m ms ws ks Ms ∧ BO T H x (bookText b ms ws ks Ms) b m ms ks ws Ms ∧
  Tabs (TT2 P1 P2) H ∧ ∀ H', KpN p H H' → Pot n H' p → Tabs (TT2 P1 P2) H' → Q (.bl true) H'
theorem ok_l_is_asked_right (T : Txt K mg) (XT : TxtX K mg T) (XM : TxtM K mg T) {c P1 P2 : Addr} (J : JAt2 K mg T c) (TB : TabB base mg c P2) (ne : P1 ≠ P2) : OGX.FnG P w K mg base 10 T.f_l_is_asked_right T.fd_l_is_asked_right ["pot", "own", "book"] (spAsk T P1 P2) := by
  obtain ⟨oc, od, kV, doc, pm, an, ct, osl, efd, lk, hcd⟩ := J.ex
  rw [efd] at lk ⊢
  refine OGX.fnG_of lk hcd sc_l_is_asked_right (fun vs H Q E h => ?_) fun A outer s H vs Q E hG hr h => ?_
  · obtain ⟨p, o, x, _, _, _, _, _, _, _, rfl, _⟩ := h
    rfl
  obtain ⟨p, o, x, n, b, m, ms, ks, ws, Ms, rfl, hP, hB, ok, hX, hT, q⟩ := h
  obtain ⟨och, odh, kVh, doch, pmh, anh, cdvh, cth, oslh, efh, lkh, hch⟩ := T.F_l_heard.ex
  have bh := T.b_l_heard
  rw [efh] at lkh bh
  obtain ⟨ocr, odr, kVr, docr, pmr, anr, cdvr, ctr, oslr, efr, lkr, hcr⟩ := T.F_l_is_refusal.ex
  have br := T.b_l_is_refusal
  rw [efr] at lkr br
  refine ⟨_, (pss_cons (ps_par (i := 3) (j := 4) (by rfl) sc_l_is_asked_right.nd rfl rfl (by decide) rfl rfl (pa_cons (pe_callTy call_list_of (by rfl) T.n_list (by decide +kernel) (pa_cons (pe_dget (hu_of hr) (pv 1) pe_str (fun _ _ => rfl)) pa_nil)) (pa_cons (pe_callTy call_list_of (by rfl) T.n_list (by decide +kernel) (pa_cons (pe_dget (hu_of hr) (pv 1) pe_str (fun _ _ => rfl)) pa_nil)) pa_nil)) (by rfl))
  (pss_cons (ps_set (i := 5) sc_l_is_asked_right.nd rfl (Or.inr rfl) (pe_op op_cat (pe_op op_cat (pv 3) (pv 4)) (pe_lst (pa_cons (pe_op op_add_str (pe_ix ix_list (pv 3) pe_int (fun _ _ => rfl)) pe_str) (pa_cons (pe_slice sl_str (pe_ix ix_list (pv 3) pe_int (fun _ _ => rfl)) (po_some pe_int) po_none) (pa_cons (pe_callTy call_tuple_of (by rfl) T.n_tuple (by decide +kernel) (pa_cons (pv 3) pa_nil)) (pa_cons pe_bl pa_nil)))))))
  (pss_cons (ps_asg (pe_lc (own := [("lap", 12)]) (g := gName 12) (by rfl) sc_l_is_asked_right.nd (pi_range1 (by rfl) T.n_range (pa_cons pe_int pa_nil)) (blkOk_by (own := [("lap", 12)]) (by rfl)) (fun _ _ _ _ _ => (pg_name (i := 12) sc_l_is_asked_right.nd rfl (Or.inl rfl))) (fun _ _ _ _ _ => pts_nil) (fun _ _ _ _ _ => (pe_call (ok_l_of T) (hr.mono (by decide)) (by rfl) T.g_l_of T.F_l_of.kp T.b_l_of .nil pass0 (pa_cons (pv 0) (pa_cons (pe_op op_cat (pv 5) (pe_lst (pa_cons (pe_call (ok_l_odd2 T) (hr.mono (by decide)) (by rfl) T.g_l_odd T.F_l_odd.kp T.b_l_odd .nil pass0 (pa_cons (pv 0) pa_nil)) pa_nil))) pa_nil))))) (pg_lst (by rfl) (pgs_cons (pg_name (i := 9) sc_l_is_asked_right.nd rfl (Or.inr rfl)) (pgs_cons (pg_name (i := 10) sc_l_is_asked_right.nd rfl (Or.inr rfl)) (pgs_cons (pg_name (i := 11) sc_l_is_asked_right.nd rfl (Or.inr rfl)) pgs_nil)))))
  (pss_cons (ps_set (i := 6) sc_l_is_asked_right.nd rfl (Or.inl rfl) (pe_tup (pa_cons pe_str (pa_cons (pv 9) (pa_cons (pe_imp (t' := tIsIn 9 4) (pe_and (pe_callB call_isi (by rfl) T.n_isinstance (by decide +kernel) (pa_cons (pv 9) (pa_cons (pe_bltn (v := .ty "str") (by rfl) T.n_str (by decide +kernel) rfl) pa_nil))) (pe_one (pe_cmpR op_in_seq (pv 9) (pv 4) rfl))) (fun σ H Q h => by 
        obtain ⟨v, L, l, e1, e2, hv, hL, q⟩ := h
        obtain ⟨ty0, ty, kt⟩ := isi_ty (K := K) hv
        refine ⟨v, e1, _, _, ty0, _, _, rfl, .ty _, ty, kt, ?_⟩
        refine ⟨_, rfl, ?_⟩
        by_cases hs : ∃ z, v = .str z
        · obtain ⟨z, rfl⟩ := hs
          refine iteT ?_
          exact ⟨.str z, e1, .ref L, e2, L, _, rfl, .inl (SqL.of hL), rfl, flat_strs _, q⟩
        · have n2 : isStr v = false := by
            cases v <;> first | rfl | exact absurd ⟨_, rfl⟩ hs
          rw [n2]
          refine iteF ?_
          rw [inM_parts, n2] at q
          exact q)) pa_nil)))))
  (pss_cons (ps_set (i := 7) sc_l_is_asked_right.nd rfl (Or.inl rfl) (pe_tup (pa_cons pe_str (pa_cons (pv 10) (pa_cons (pe_imp (t' := tIsIn 10 3) (pe_and (pe_callB call_isi (by rfl) T.n_isinstance (by decide +kernel) (pa_cons (pv 10) (pa_cons (pe_bltn (v := .ty "str") (by rfl) T.n_str (by decide +kernel) rfl) pa_nil))) (pe_one (pe_cmpR op_in_seq (pv 10) (pv 3) rfl))) (fun σ H Q h => by 
        obtain ⟨v, L, l, e1, e2, hv, hL, q⟩ := h
        obtain ⟨ty0, ty, kt⟩ := isi_ty (K := K) hv
        refine ⟨v, e1, _, _, ty0, _, _, rfl, .ty _, ty, kt, ?_⟩
        refine ⟨_, rfl, ?_⟩
        by_cases hs : ∃ z, v = .str z
        · obtain ⟨z, rfl⟩ := hs
          refine iteT ?_
          exact ⟨.str z, e1, .ref L, e2, L, _, rfl, .inl (SqL.of hL), rfl, flat_strs _, q⟩
        · have n2 : isStr v = false := by
            cases v <;> first | rfl | exact absurd ⟨_, rfl⟩ hs
          rw [n2]
          refine iteF ?_
          rw [inM_parts, n2] at q
          exact q)) pa_nil)))))
  (pss_cons (ps_set (i := 8) sc_l_is_asked_right.nd rfl (Or.inl rfl) (pe_tup (pa_cons pe_str (pa_cons (pv 11) (pa_cons (pe_imp (t' := tIsIn 11 3) (pe_and (pe_callB call_isi (by rfl) T.n_isinstance (by decide +kernel) (pa_cons (pv 11) (pa_cons (pe_bltn (v := .ty "str") (by rfl) T.n_str (by decide +kernel) rfl) pa_nil))) (pe_one (pe_cmpR op_in_seq (pv 11) (pv 3) rfl))) (fun σ H Q h => by 
        obtain ⟨v, L, l, e1, e2, hv, hL, q⟩ := h
        obtain ⟨ty0, ty, kt⟩ := isi_ty (K := K) hv
        refine ⟨v, e1, _, _, ty0, _, _, rfl, .ty _, ty, kt, ?_⟩
        refine ⟨_, rfl, ?_⟩
        by_cases hs : ∃ z, v = .str z
        · obtain ⟨z, rfl⟩ := hs
          refine iteT ?_
          exact ⟨.str z, e1, .ref L, e2, L, _, rfl, .inl (SqL.of hL), rfl, flat_strs _, q⟩
        · have n2 : isStr v = false := by
            cases v <;> first | rfl | exact absurd ⟨_, rfl⟩ hs
          rw [n2]
          refine iteF ?_
          rw [inM_parts, n2] at q
          exact q)) pa_nil)))))
  (pss_cons (ps_if (pt_not (pt_val (OGX.pe_lamhand (T := TT2 P1 P2) (T1 := THeard K T.c_GateError) (TT := TRefu T) (k := 3) (pss := ["dues"]) (y := "_law_heard") (a := "call") (b := "call") (by rfl) T.g_l_is_refusal T.F_l_is_refusal.kp lkr hcr br sc_l_is_refusal rfl (Or.inl rfl) (refusal_hands XM) refu_len (by rfl) T.g_l_heard T.F_l_heard.kp lkh hch bh sc_l_heard rfl (Or.inl rfl) heard_gives TB rfl (List.mem_cons_of_mem _ List.mem_cons_self) (tt_two ne) (hr.mono (by decide)) (lamS_by (by show lamSB (defScope s_l_is_asked_right) _ = true; decide +kernel)) rfl (fun _ _ _ _ _ => rfl)
      (fun A outer s H E f c' hr2 => pe_meth (pv 2) XT.cl XM.m_weight (ok_Book_weight T XT XM) (hr2.mono (by decide)) T.b_Book_weight .nil (passes_call (takes_of rfl rfl rfl rfl) (fun _ _ _ _ h => h)) (pa_cons (pv 10) pa_nil)) (pa_cons (pe_lst (pa_cons (pv 7) pa_nil)) pa_nil) hG))) (pss_one (ps_ret pe_bl)) pss_nil)
  (pss_one (ps_ret (OGX.pe_lamhand (T := TT2 P1 P2) (T1 := THeard K T.c_GateError) (TT := TRefu T) (k := 3) (pss := ["dues"]) (y := "_law_heard") (a := "call") (b := "call") (by rfl) T.g_l_is_refusal T.F_l_is_refusal.kp lkr hcr br sc_l_is_refusal rfl (Or.inl rfl) (refusal_hands XM) refu_len (by rfl) T.g_l_heard T.F_l_heard.kp lkh hch bh sc_l_heard rfl (Or.inl rfl) heard_gives TB rfl (List.mem_cons_of_mem _ List.mem_cons_self) (tt_two ne) (hr.mono (by decide)) (lamS_by (by show lamSB (defScope s_l_is_asked_right) _ = true; decide +kernel)) rfl (fun _ _ _ _ _ => rfl)
      (fun A outer s H E f c' hr2 => pe_meth (pv 2) XT.cl XM.m_worth (ok_Book_worth T XT XM) (hr2.mono (by decide)) T.b_Book_worth .nil (passes_call (takes_of rfl rfl rfl rfl) (fun _ _ _ _ h => h)) (pa_cons (pv 9) (pa_cons (pv 10) (pa_cons (pv 11) pa_nil)))) (pa_cons (pe_lst (pa_cons (pv 6) (pa_cons (pv 7) (pa_cons (pv 8) pa_nil)))) pa_nil) hG)))))))))), ?_⟩
  have wide : ∀ {n : Nat}, n ≤ 1000 → n ≤ sizeLine := fun h => Nat.le_trans h (by decide)
  have hml := ok.nm.len
  have hm4 := ok.m4
  have hm1 := ok.m1
  have hk3 := ok.k3
  obtain ⟨kvs, tm, tw, tk, td, hO, hl10, v1, v2, hT2, v3, hT3, v4, hT4, v5, _⟩ := id hB
  refine ⟨.ref o, rfl, o, _, rfl, dget hO v2, tm, _, rfl, .inr (SqT.of hT2), fun M hM => ?_⟩
  have s1 := same_new (o := .lst (ms.map V.str)) hM
  have gM : (upd H M (.lst (ms.map V.str))) M = some (.lst (ms.map V.str)) := upd_same
  generalize upd H M (.lst (ms.map V.str)) = H1 at *
  refine ⟨.ref o, rfl, o, _, rfl, dget (s1 _ _ hO) v4, tk, _, rfl, .inr (SqT.of (s1 _ _ hT4)), fun Kd hKd => ?_⟩
  have s2 := same_new (o := .lst (ks.map V.str)) hKd
  have gK : (upd H1 Kd (.lst (ks.map V.str))) Kd = some (.lst (ks.map V.str)) := upd_same
  have gM2 := s2 _ _ gM
  generalize upd H1 Kd (.lst (ks.map V.str)) = H2 at *
  have s12 := s1.trans s2
  refine ⟨_, _, rfl, ?_⟩
  obtain ⟨m0, hm0⟩ : ∃ m0, ms[0]? = some m0 := ⟨ms[0]'(by omega), List.getElem?_eq_getElem (by omega)⟩
  have ism0 := ok.nm.is m0 (List.mem_of_getElem? hm0)
  have at0 : atI (ms.map V.str) 0 = some (.str m0) := atI_nat (j := 0) (by rw [List.getElem?_map, hm0]; rfl)
  have kl := ok.nk.len
  refine ⟨.ref M, rfl, .ref Kd, rfl, M, Kd, _, _, rfl, rfl, gM2, gK, wide (by rw [List.length_map, List.length_map]; omega), fun S1 hS1 => ?_⟩
  have s3 := same_new (o := .lst (ms.map V.str ++ ks.map V.str)) hS1
  have gS1 : (upd H2 S1 (.lst (ms.map V.str ++ ks.map V.str))) S1 = some (.lst (ms.map V.str ++ ks.map V.str)) := upd_same
  have gM3 := s3 _ _ gM2
  have gK3 := s3 _ _ gK
  generalize upd H2 S1 (.lst (ms.map V.str ++ ks.map V.str)) = H3 at *
  have s13 := s12.trans s3
  refine ⟨.ref M, rfl, M, _, 0, .str m0, rfl, rfl, SqL.of gM3, at0, _, _, rfl, rfl, wide (by have := ism0.2.1; show _ + 1 ≤ _; omega), ?_⟩
  refine ⟨.ref M, rfl, M, _, 0, .str m0, rfl, rfl, SqL.of gM3, at0, 1, rfl, ?_⟩
  dsimp only [tNoPart]
  refine ⟨m0, rfl, wide (by have := ism0.2.1; omega), ?_⟩
  refine ⟨.ref M, rfl, M, _, rfl, .inl ⟨SqL.of gM3, fun tt htt => ?_⟩⟩
  have s4 := same_new (o := .tup (ms.map V.str)) htt
  have gtt : (upd H3 tt (.tup (ms.map V.str))) tt = some (.tup (ms.map V.str)) := upd_same
  have gS4 := s4 _ _ gS1
  have hp4 : ∃ ys, (upd H3 tt (.tup (ms.map V.str))) p = some (.lst ys) := (hP.same (s13.trans s4)).lst
  have ntp : tt ≠ p := (hP.same s13).ne htt
  generalize upd H3 tt (.tup (ms.map V.str)) = H4 at *
  have s14 := s13.trans s4
  refine ⟨wide (show 4 ≤ 1000 by decide), fun l3 hl3 => ?_⟩
  obtain ⟨x3, hx3⟩ : ∃ x3 : List V, x3 = [.str (m0 ++ "x"), .str (cutS m0 (some 1) none), .ref tt, .bl true] := ⟨_, rfl⟩
  have lx3 : x3.length = 4 := by
    rw [hx3]
    rfl
  rw [← hx3]
  have s5 := same_new (o := .lst x3) hl3
  have g3 : (upd H4 l3 (.lst x3)) l3 = some (.lst x3) := upd_same
  have gS5 := s5 _ _ gS4
  have gtt5 := s5 _ _ gtt
  generalize upd H4 l3 (.lst x3) = H5 at *
  have s15 := s14.trans s5
  refine ⟨S1, l3, _, _, rfl, rfl, gS5, g3, wide (by rw [List.length_append, List.length_map, List.length_map]; omega), fun S hS => ?_⟩
  obtain ⟨xs, hxs⟩ : ∃ xs, xs = ms.map V.str ++ ks.map V.str ++ x3 := ⟨_, rfl⟩
  have lxs : xs.length ≤ 20 ∧ 1 ≤ xs.length := by
    rw [hxs, List.length_append, List.length_append, List.length_map, List.length_map]
    omega
  rw [← hxs]
  have s6 := same_new (o := .lst xs) hS
  have gS : (upd H5 S (.lst xs)) S = some (.lst xs) := upd_same
  have gtt6 := s6 _ _ gtt5
  have vx : ∀ {HH : Hp}, HH tt = some (.tup (ms.map V.str)) → ∀ x ∈ xs, Val K p HH x := fun {HH} e x hx => by
    rw [hxs, hx3] at hx
    rcases List.mem_append.mp hx with hx | hx
    · rcases List.mem_append.mp hx with hx | hx
      · obtain ⟨z, hz, rfl⟩ := List.mem_map.mp hx
        exact (lf_nm (ok.nm.is z hz)).vs
      · obtain ⟨z, hz, rfl⟩ := List.mem_map.mp hx
        exact (lf_nm (ok.nk.is z hz)).vs
    · simp only [List.mem_cons, List.mem_nil_iff, or_false] at hx
      rcases hx with rfl | rfl | rfl | rfl
      · exact ((sm_app (sm_nm ism0) (m := 1) (z := "x") ⟨by decide, by decide +kernel⟩).lf (by decide)).vs
      · exact ((sm_cut (sm_nm ism0) (some 1) none).lf (by decide)).vs
      · exact val_tup e ntp (fun x hx => by
          obtain ⟨z, hz, rfl⟩ := List.mem_map.mp hx
          exact (lf_nm (ok.nm.is z hz)).itm) (by rw [List.length_map]; omega)
      · exact (lf_bl true).val fun a h => by cases h
  have nSp : S ≠ p := (hP.same s15).ne hS
  have nSt : tt ≠ S := fun z => by
    rw [z, hS] at gtt5
    cases gtt5
  have gM6 := s6 _ _ (s5 _ _ (s4 _ _ gM3))
  have gK6 := s6 _ _ (s5 _ _ (s4 _ _ gK3))
  generalize upd H5 S (.lst xs) = H6 at *
  have s16 := s15.trans s6
  have hP6 := hP.same s16
  refine ⟨3, rfl, by decide, by decide, fun D hD => ?_⟩
  have qD := fresh_ne ⟨_, hP6.lst.choose_spec⟩ hD
  have tD : tt ≠ D := fun z => by
    rw [← z, gtt6] at hD
    cases hD
  refine lc_range (lo := 0) (n := 3) (fun i H' => Dr p (n + 10 - 2 * i) H6 H' ∧ ∃ vs, H' D = some (.lst vs) ∧ vs.length = i ∧ ∀ x ∈ vs, Val K p (Hm D H') x) ⟨(Dr.start hP6 (by omega)).new hD, [], upd_same, rfl, fun x hx => by cases hx⟩ ?_ ?_
  · rintro i H7 hi ⟨d, vs, gD, lv, hv⟩
    refine ⟨rfl, ?_⟩
    refine ⟨.ref p, rfl, .ref S, rfl, .ref p, rfl, p, n + 9 - 2 * i, rfl, d.2.mono (by omega), fun v H8 d8 hv8 hW => ⟨wide (show 1 ≤ 1000 by decide), fun l4 hl4 => ?_⟩⟩
    have gS8 := d8.st nSp (d.st nSp gS)
    have e1 := same_new (o := .lst [v]) hl4
    have g4 : (upd H8 l4 (.lst [v])) l4 = some (.lst [v]) := upd_same
    have gD8 := d8.st qD gD
    generalize upd H8 l4 (.lst [v]) = H9 at *
    refine ⟨S, l4, xs, [v], rfl, rfl, e1 _ _ gS8, g4, wide (by show _ + 1 ≤ _; omega), fun l5 hl5 => ?_⟩
    have e2 := same_new (o := .lst (xs ++ [v])) hl5
    have g5 : (upd H9 l5 (.lst (xs ++ [v]))) l5 = some (.lst (xs ++ [v])) := upd_same
    have d9 := (d8.sm e1).sm e2
    have n5 : l5 ≠ p := fresh_ne ⟨_, (d8.sm e1).2.lst.choose_spec⟩ hl5
    generalize upd H9 l5 (.lst (xs ++ [v])) = H10 at *
    refine ⟨p, l5, xs ++ [v], n + 10 - 2 * (i + 1), rfl, d9.2.mono (by omega), SqL.of g5, n5, by rw [List.length_append]; show 0 < _ + 1; omega, by rw [List.length_append]; show _ + 1 < _; omega, fun j y H11 hy d11 => ?_⟩
    have gD11 := d11.st qD (e2 _ _ (e1 _ _ gD8))
    have gt11 := d11.st ntp (d9.st ntp (d.st ntp gtt6))
    refine ⟨vs, gD11, small1000' (by omega), ((d.trans d9).trans d11).mut hD qD, vs ++ [y], upd_same, by rw [List.length_append, lv]; rfl, fun z hz => ?_⟩
    rw [Hm.updE]
    have hp : ∀ {HH : Hp}, (∃ ys, HH p = some (.lst ys)) → ∃ ys, (Hm D HH) p = some (.lst ys) := fun ⟨ys, h⟩ => ⟨ys, by rw [Hm.ne qD.symm]; exact h⟩
    have s810 := e1.trans e2
    rcases List.mem_append.mp hz with hz | hz
    · exact (((hv z hz).dr (hp d.2.lst) (d8.hm qD)).same (Hm.mono s810)).dr (hp d9.2.lst) (d11.hm qD)
    · rw [List.mem_singleton.mp hz]
      rcases List.mem_append.mp (List.mem_of_getElem? hy) with hy | hy
      · exact vx (by rw [Hm.ne tD]; exact gt11) y hy
      · rw [List.mem_singleton.mp hy]
        exact ((hW D qD ⟨_, gD⟩).same (Hm.mono s810)).dr (hp d9.2.lst) (d11.hm qD)
  rintro H7 ⟨d, vs, gD, lv, hv⟩
  obtain ⟨ki, on, ot, rfl⟩ : ∃ a b c, vs = [a, b, c] := by
    match vs, lv with
    | [a, b, c], _ => exact ⟨a, b, c, rfl⟩
  have vK : Val K p H7 ki := (hv ki (by simp)).same Hm.same
  have vO : Val K p H7 on := (hv on (by simp)).same Hm.same
  have vT : Val K p H7 ot := (hv ot (by simp)).same Hm.same
  have nMp : M ≠ p := fun z => by
    obtain ⟨ys, h⟩ := hP6.lst
    obtain ⟨zs, h0⟩ := hP.lst
    rw [z, h0] at hM
    cases hM
  have nKp : Kd ≠ p := fun z => by
    obtain ⟨zs, h0⟩ := (hP.same s1).lst
    rw [z, h0] at hKd
    cases hKd
  have gM7 := d.st nMp gM6
  have gK7 := d.st nKp gK6
  refine ⟨D, _, rfl, SqL.of gD, rfl, _, _, rfl, _, _, rfl, _, _, rfl, rfl, ?_⟩
  refine ⟨ki, rfl, ki, Kd, ks, rfl, rfl, vK.near, gK7, wide (show 3 ≤ 1000 by decide), fun u1 hu1 => ?_⟩
  have e1 := same_new (o := dueT ("kind", ki, inM ki ks)) hu1
  have f1 : (upd H7 u1 (dueT ("kind", ki, inM ki ks))) u1 = some (dueT ("kind", ki, inM ki ks)) := upd_same
  have r1 : upd H7 u1 (.tup ([.str "kind", ki, .bl (inM ki ks)])) = upd H7 u1 (dueT ("kind", ki, inM ki ks)) := rfl
  rw [r1]
  generalize upd H7 u1 (dueT ("kind", ki, inM ki ks)) = H8 at *
  refine ⟨on, rfl, on, M, ms, rfl, rfl, NearV.same e1 vO.near, e1 _ _ gM7, wide (show 3 ≤ 1000 by decide), fun u2 hu2 => ?_⟩
  have e2 := same_new (o := dueT ("mark", on, inM on ms)) hu2
  have f2 : (upd H8 u2 (dueT ("mark", on, inM on ms))) u2 = some (dueT ("mark", on, inM on ms)) := upd_same
  have r2 : upd H8 u2 (.tup ([.str "mark", on, .bl (inM on ms)])) = upd H8 u2 (dueT ("mark", on, inM on ms)) := rfl
  rw [r2]
  generalize upd H8 u2 (dueT ("mark", on, inM on ms)) = H9 at *
  have e12 := e1.trans e2
  refine ⟨ot, rfl, ot, M, ms, rfl, rfl, NearV.same e12 vT.near, e12 _ _ gM7, wide (show 3 ≤ 1000 by decide), fun u3 hu3 => ?_⟩
  have e3 := same_new (o := dueT ("mark", ot, inM ot ms)) hu3
  have f3 : (upd H9 u3 (dueT ("mark", ot, inM ot ms))) u3 = some (dueT ("mark", ot, inM ot ms)) := upd_same
  have r3 : upd H9 u3 (.tup ([.str "mark", ot, .bl (inM ot ms)])) = upd H9 u3 (dueT ("mark", ot, inM ot ms)) := rfl
  rw [r3]
  generalize upd H9 u3 (dueT ("mark", ot, inM ot ms)) = H10 at *
  have e13 := e12.trans e3
  have k : Kp p H H10 := ((Same.kp s16).trans d.1).trans (Same.kp e13)
  have hT10 : Tabs (TT2 P1 P2) H10 := tabs_kp hT hP.lst k
  have hX10 := hX.kp hP.lst k
  have pot10 : Pot n H10 p := (d.2.same e13).mono (by omega)
  have vK := vK.same e13
  have vO := vO.same e13
  have vT := vT.same e13
  have f1 := (e2.trans e3) _ _ f1
  have f2 := e3 _ _ f2
  refine ⟨hT10, fun H11 c1 x11 t11 hc11 => ⟨.ref u2, rfl, wide (show 1 ≤ 1000 by decide), fun L1 hL1 => ?_⟩⟩
  have y1 := same_new (o := .lst [.ref u2]) hL1
  have gL1 : (upd H11 L1 (.lst [.ref u2])) L1 = some (.lst [.ref u2]) := upd_same
  generalize upd H11 L1 (.lst [.ref u2]) = H12 at *
  have x12 := x11.trans (ExtN.of y1)
  refine ⟨y1 _ _ hc11, p, L1, [u2], [("mark", on, inM on ms)], rfl, gL1, rfl, (by show 1 ≤ 3; decide), fun i a hi => ?_, fun u hu => ?_, fun H13 s13 => ?_, fun H13 s13 => ?_⟩
  · cases i with
    | zero =>
      cases Option.some.inj hi
      exact ⟨_, rfl, x12 _ _ f2 due_nt⟩
    | succ i => simp at hi
  · rw [List.mem_singleton.mp hu]
    exact ⟨vO.extN x12, .inr rfl⟩
  · have x13 := x12.trans (ExtN.of s13)
    have hX13 := hX10.extN x13
    obtain ⟨dx, t1, t2, a1, a2, fs, kv2, hx, _, g1, g2, g3, g4, g5, g6, g7, g8, g9, g10, g11, n1, n2⟩ := id hX13.obj
    have nv := (vO.extN x13).near
    cases e : inM on ms with
    | true => exact .inl ⟨rfl, fun E Qk hq => ⟨.ref x, rfl, x, dx, fs, rfl, hx, n1, on, rfl, wgt_sp hX13 nv (fun _ i => hq _ _ (Same.refl _)) fun z => by rw [e] at z; cases z⟩⟩
    | false => exact .inr ⟨_, _, rfl, .inr ⟨rfl, fun E Qk hq => ⟨.ref x, rfl, x, dx, fs, rfl, hx, n1, on, rfl, wgt_sp hX13 nv (fun z => by rw [e] at z; cases z) fun _ => hq⟩⟩⟩
  refine ⟨true, rfl, ?_⟩
  refine iteF ?_
  dsimp only [tNext, tSeq]
  have x13 := x12.trans (ExtN.of s13)
  have t13 := t11.ext (y1.trans s13)
  refine ⟨t13, fun H14 c2 x14 t14 hc14 => ⟨.ref u1, rfl, .ref u2, rfl, .ref u3, rfl, wide (show 3 ≤ 1000 by decide), fun L2 hL2 => ?_⟩⟩
  have y2 := same_new (o := .lst [.ref u1, .ref u2, .ref u3]) hL2
  have gL2 : (upd H14 L2 (.lst [.ref u1, .ref u2, .ref u3])) L2 = some (.lst [.ref u1, .ref u2, .ref u3]) := upd_same
  generalize upd H14 L2 (.lst [.ref u1, .ref u2, .ref u3]) = H15 at *
  have x15 := (x13.trans x14).trans (ExtN.of y2)
  refine ⟨y2 _ _ hc14, p, L2, [u1, u2, u3], [("kind", ki, inM ki ks), ("mark", on, inM on ms), ("mark", ot, inM ot ms)], rfl, gL2, rfl, (by show 3 ≤ 3; decide), fun i a hi => ?_, fun u hu => ?_, fun H16 s16' => ?_, fun H16 s16' => ?_⟩
  · match i, hi with
    | 0, hi =>
      cases Option.some.inj hi
      exact ⟨_, rfl, x15 _ _ f1 due_nt⟩
    | 1, hi =>
      cases Option.some.inj hi
      exact ⟨_, rfl, x15 _ _ f2 due_nt⟩
    | 2, hi =>
      cases Option.some.inj hi
      exact ⟨_, rfl, x15 _ _ f3 due_nt⟩
    | i + 3, hi => simp at hi
  · simp only [List.mem_cons, List.mem_nil_iff, or_false] at hu
    rcases hu with rfl | rfl | rfl
    · exact ⟨vK.extN x15, .inl rfl⟩
    · exact ⟨vO.extN x15, .inr rfl⟩
    · exact ⟨vT.extN x15, .inr rfl⟩
  · have x16 := x15.trans (ExtN.of s16')
    have hX16 := hX10.extN x16
    obtain ⟨dx, t1, t2, a1, a2, fs, kv2, hx, _, g1, g2, g3, g4, g5, g6, g7, g8, g9, g10, g11, n1, n2⟩ := id hX16.obj
    have nk := (vK.extN x16).near
    have no := (vO.extN x16).near
    have nt := (vT.extN x16).near
    have cs : ∀ {a b : Bool} {R : Prop}, a = true → (b = false → b = true → R) := fun _ h1 h2 => by rw [h1] at h2; cases h2
    cases ek : inM ki ks with
    | false => exact .inr ⟨_, _, rfl, .inl ⟨rfl, fun E Qk hq => ⟨.ref x, rfl, x, dx, fs, rfl, hx, n2, ki, rfl, on, rfl, ot, rfl, wor_sp hX16 nk no nt (fun z => by rw [ek] at z; cases z) (fun _ => hq) (fun z => by rw [ek] at z; cases z) (fun z => by rw [ek] at z; cases z)⟩⟩⟩
    | true =>
      cases eo : inM on ms with
      | false => exact .inr ⟨_, _, rfl, .inr ⟨rfl, fun E Qk hq => ⟨.ref x, rfl, x, dx, fs, rfl, hx, n2, ki, rfl, on, rfl, ot, rfl, wor_sp hX16 nk no nt (fun _ z => by rw [eo] at z; cases z) (fun z => by rw [ek] at z; cases z) (fun _ _ => hq) (fun _ z => by rw [eo] at z; cases z)⟩⟩⟩
      | true =>
        cases et : inM ot ms with
        | false => exact .inr ⟨_, _, rfl, .inr ⟨rfl, fun E Qk hq => ⟨.ref x, rfl, x, dx, fs, rfl, hx, n2, ki, rfl, on, rfl, ot, rfl, wor_sp hX16 nk no nt (fun _ _ z => by rw [et] at z; cases z) (fun z => by rw [ek] at z; cases z) (fun _ z => by rw [eo] at z; cases z) (fun _ _ _ => hq)⟩⟩⟩
        | true => exact .inl ⟨rfl, fun E Qk hq => ⟨.ref x, rfl, x, dx, fs, rfl, hx, n2, ki, rfl, on, rfl, ot, rfl, wor_sp hX16 nk no nt (fun _ _ _ i => hq _ _ (Same.refl _)) (fun z => by rw [ek] at z; cases z) (fun _ z => by rw [eo] at z; cases z) (fun _ _ z => by rw [et] at z; cases z)⟩⟩
  have xF := x15.trans (ExtN.of s16')
  have tF := t14.ext (y2.trans s16')
  refine q H16 (fun b o nb e nt => xF _ _ (k _ _ nb e) nt) ?_ tF
  obtain ⟨pa, pb, pc, h1, h2⟩ := pot10
  exact ⟨pa, pb, pc, xF _ _ h1 (fun ps z => by cases z), h2⟩
end
end OG
set_option Elab.async false
set_option linter.all false
set_option maxRecDepth 100000
set_option maxHeartbeats 8000000
namespace OG
open PySem PySem.Spec PyProof.Rows L2 LamX
theorem ObjAt.mv {K : PySem.W.Frag} {mg : Str → Option Value} {T : Txt K mg} {H H' : Hp} {x : Addr} {z : Str} {b : Int} {mw : List (Str × Int)} {kw : List (Str × List Int)} (h : ObjAt T H x z b mw kw) (s : ∀ b o, H b = some o → (∀ xs, o ≠ .lst xs) → (∀ ps, o ≠ .tbl ps) → H' b = some o) : ObjAt T H' x z b mw kw := by
  have gm : ∀ {t xs}, MkT H t xs → MkT H' t xs := fun {t xs} ⟨o, e, d⟩ => ⟨o, s _ _ e (fun _ z => by cases z) (fun _ z => by cases z), d⟩
  obtain ⟨dx, t1, t2, a1, a2, fs, kv2, hx, l10, f1, f2, f3, g1, f4, g2, f5, g3, f6, g4, g5, n1, n2⟩ := h
  refine ⟨dx, t1, t2, a1, a2, fs, kv2, s _ _ hx (fun _ z => by cases z) (fun _ z => by cases z), l10, f1, f2, f3, gm g1, f4, gm g2, f5, s _ _ g3 (fun _ z => by cases z) (fun _ z => by cases z), f6, s _ _ g4 (fun _ z => by cases z) (fun _ z => by cases z), ?_, n1, n2⟩
  have key : ∀ {kv : List (Key × V)} {kw : List (Str × List Int)}, KvK H kv kw → KvK H' kv kw := by
    intro kv kw h
    induction h with
    | nil => exact .nil
    | cons h _ ih =>
      obtain ⟨e, t, et, ht⟩ := h
      exact .cons ⟨e, t, et, s _ _ ht (fun _ z => by cases z) (fun _ z => by cases z)⟩ ih
  exact key g5
theorem BookAt.mv {H H' : Hp} {o : Addr} {b : Int} {m : Nat} {ms ks : List Str} {ws : List Int} {Ms : List (List (List Int))} (h : BookAt H o b m ms ws ks Ms) (s : ∀ b o, H b = some o → (∀ xs, o ≠ .lst xs) → (∀ ps, o ≠ .tbl ps) → H' b = some o) : BookAt H' o b m ms ws ks Ms := by
  obtain ⟨kvs, tm, tw, tk, td, h1, h2, h3, h4, h5, h6, h7, h8, h9, h10, tk2, h11, hn, hl, h12⟩ := h
  have g : ∀ {b o}, H b = some o → (∀ xs, o ≠ .lst xs) → (∀ ps, o ≠ .tbl ps) → H' b = some o := fun e n m => s _ _ e n m
  refine ⟨kvs, tm, tw, tk, td, g h1 (fun _ z => by cases z) (fun _ z => by cases z), h2, h3, h4, g h5 (fun _ z => by cases z) (fun _ z => by cases z), h6, g h7 (fun _ z => by cases z) (fun _ z => by cases z), h8, g h9 (fun _ z => by cases z) (fun _ z => by cases z), h10, tk2, g h11 (fun _ z => by cases z) (fun _ z => by cases z), hn, hl, fun i k hk => ?_⟩
  obtain ⟨t, M, e1, e2, rs, l1, l2, l3, l4, l5⟩ := h12 i k hk
  refine ⟨t, M, e1, e2, rs, g l1 (fun _ z => by cases z) (fun _ z => by cases z), l2, l3, fun j r hr => ?_, l5⟩
  obtain ⟨row, p1, p2⟩ := l4 j r hr
  exact ⟨row, p1, g p2 (fun _ z => by cases z) (fun _ z => by cases z)⟩
theorem KpN.mv {p : Addr} {H H' : Hp} (k : KpN p H H') (hp : ∃ ys, H p = some (.lst ys)) : ∀ b o, H b = some o → (∀ xs, o ≠ .lst xs) → (∀ ps, o ≠ .tbl ps) → H' b = some o := fun b o e n m => k b o (fun z => by
  obtain ⟨ys, h⟩ := hp
  rw [z, h] at e
  exact n _ (Option.some.inj e).symm) e m
theorem all_true : ∀ n : Nat, (List.replicate n true).all id = true
  | 0 => rfl
  | n + 1 => by
    rw [List.replicate_succ, List.all_cons, all_true n]
    rfl
section
variable {P : Program} {w : World} {K : PySem.W.Frag} {mg : Str → Option Value} {base : Heap}
def spRt3 (P1 P2 : Addr) : Sp := fun vs H Q _ => ∃ p : Addr, vs = [.ref p] ∧ Pot 900000 H p ∧ Tabs (TT2 P1 P2) H ∧ ∀ H', KpN p H H' → Tabs (TT2 P1 P2) H' → Q (.bl true) H'
theorem ok_l_right (T : Txt K mg) (XT : TxtX K mg T) (XM : TxtM K mg T) {c1 c2 P1 P2 : Addr} (J1 : JAt1 K mg T c1) (J2 : JAt2 K mg T c2) (B1 : TabB base mg c1 P1) (B2 : TabB base mg c2 P2) (ne : P1 ≠ P2) : OGX.FnG P w K mg base 13 T.f_l_right T.fd_l_right ["pot"] (spRt3 P1 P2) := by
  refine OGX.okG T.F_l_right sc_l_right (fun vs H Q E h => ?_) (fun cdv A outer s H vs Q E hG hr h => ?_)
  · obtain ⟨p, rfl, _⟩ := h
    rfl
  · obtain ⟨p, rfl, hP, hT, q⟩ := h
    refine ⟨_, (pss_cons (ps_set (i := 1) sc_l_right.nd rfl (Or.inr rfl) (pe_call (ok_l_book_drawn T) (hr.mono (by decide)) (by rfl) T.g_l_book_drawn T.F_l_book_drawn.kp T.b_l_book_drawn .nil pass0 (pa_cons (pv 0) (pa_cons (pe_lst (pa_cons pe_int (pa_cons pe_int (pa_cons pe_int (pa_cons pe_int (pa_cons pe_int pa_nil)))))) (pa_cons (pe_lst (pa_cons pe_int (pa_cons pe_int (pa_cons pe_int (pa_cons pe_int pa_nil))))) (pa_cons pe_int (pa_cons pe_bl pa_nil)))))))
  (pss_cons (ps_set (i := 2) sc_l_right.nd rfl (Or.inr rfl) (pe_make XT.mkB (ok_Book_init2 T XT) (hr.mono (by decide)) (by rfl) T.g_Book T.b_Book_init .nil passL (pa_cons (pe_call (ok_l_book_text T) (hr.mono (by decide)) (by rfl) T.g_l_book_text T.F_l_book_text.kp T.b_l_book_text .nil pass0 (pa_cons (pv 1) pa_nil)) pa_nil)))
  (pss_cons (ps_if (pt_not (pt_val (pe_callB (cr_all rfl) (by rfl) T.n_all (by decide +kernel) (pa_cons (pe_lc (own := [("names", 4)]) (g := gName 4) (by rfl) sc_l_right.nd (pi_list (pe_call (ok_l_some_names T) (hr.mono (by decide)) (by rfl) T.g_l_some_names T.F_l_some_names.kp T.b_l_some_names .nil pass0 (pa_cons (pv 0) (pa_cons (pv 1) pa_nil)))) (blkOk_by (own := [("names", 4)]) (by rfl)) (fun _ _ _ _ _ => (pg_name (i := 4) sc_l_right.nd rfl (Or.inl rfl))) (fun _ _ _ _ _ => pts_nil) (fun _ _ _ _ _ => (OGX.pe_callG (ok_l_is_renamed_right T XT XM J1 B1 ne) hG (hr.mono (by decide)) (by rfl) T.g_l_is_renamed_right T.F_l_is_renamed_right.kp T.b_l_is_renamed_right (pa_cons (pv 1) (pa_cons (pv 2) (pa_cons (pv 4) pa_nil)))))) pa_nil)))) (pss_one (ps_ret pe_bl)) pss_nil)
  (pss_one (ps_ret (pe_callB (cr_all rfl) (by rfl) T.n_all (by decide +kernel) (pa_cons (pe_lc (own := [("lap", 3)]) (g := gName 3) (by rfl) sc_l_right.nd (pi_range1 (by rfl) T.n_range (pa_cons pe_int pa_nil)) (blkOk_by (own := [("lap", 3)]) (by rfl)) (fun _ _ _ _ _ => (pg_name (i := 3) sc_l_right.nd rfl (Or.inl rfl))) (fun _ _ _ _ _ => pts_nil) (fun _ _ _ _ _ => (OGX.pe_callG (ok_l_is_asked_right T XT XM J2 B2 ne) hG (hr.mono (by decide)) (by rfl) T.g_l_is_asked_right T.F_l_is_asked_right.kp T.b_l_is_asked_right (pa_cons (pv 0) (pa_cons (pv 1) (pa_cons (pv 2) pa_nil)))))) pa_nil))))))), ?_⟩
    have wide : ∀ {n : Nat}, n ≤ 1000 → n ≤ sizeLine := fun h => Nat.le_trans h (by decide)
    refine ⟨.ref p, rfl, wide (show 5 ≤ 1000 by decide), fun l1 hl1 => ⟨wide (show 4 ≤ 1000 by decide), fun l2 hl2 => ?_⟩⟩
    have s1 := same_new (o := .lst (([0, 0, 2, 3, 7] : List Int).map V.int)) hl1
    have s2 := same_new (o := .lst (([2, 1, 3, 4] : List Int).map V.int)) hl2
    have g1 := s2 _ _ (upd_same (H := H) (a := l1) (o := .lst (([0, 0, 2, 3, 7] : List Int).map V.int)))
    refine ⟨p, l1, l2, [0, 0, 2, 3, 7], [2, 1, 3, 4], 3, 890000, false, rfl, (hP.same (s1.trans s2)).mono (by decide), SqL.of g1, hP.ne hl1, by simp, by simp, by decide, SqL.of upd_same, (hP.same s1).ne hl2, by decide, by decide, by decide, by decide, by decide, ?_⟩
    intro o b m ms ks ws Ms H1 hbb hm d1 no nop hB ok
    have d1 : Dr p 890000 H H1 := ⟨(Same.kp (s1.trans s2)).trans d1.1, d1.2⟩
    clear s1 s2 g1
    have hb : b = 0 ∨ b ∈ primesL := by
      simp only [List.mem_cons, List.mem_nil_iff, or_false] at hbb
      rcases hbb with rfl | rfl | rfl | rfl | rfl <;> decide
    have mats := mats_of hB ok
    refine ⟨.ref o, rfl, o, b, m, ms, ks, ws, Ms, rfl, hB, ok, fun H3 s3 => ?_⟩
    have z5100 := text_fit ok mats
    refine book_made (T := T) rfl hb ok mats (by omega) fun x H4 s4 nx hX => ?_
    have s14 := s3.trans s4
    have hX4 : BO T H4 x (bookText b ms ws ks Ms) b m ms ks ws Ms := ⟨hX, ok, mats⟩
    have hB4 := hB.same s14
    have d4 := d1.sm s14
    clear s3 s4 hX
    refine ⟨.ref p, rfl, .ref o, rfl, p, o, b, m, 880000, ms, ks, ws, Ms, rfl, d4.2.mono (by decide), hB4, ok, fun L xs H5 d5 gL nLp nL lx vx => ?_⟩
    have hp4 := d4.2.lst
    have hX5 := hX4.kp hp4 d5.1
    have hB5 := hB4.dr d4.2 d5
    have d05 := d4.trans d5
    have hT5 := tabs_kp hT hP.lst d05.1
    refine ⟨L, rfl, ⟨_, SqL.of gL⟩, fun D hD => ?_⟩
    have nLD : L ≠ D := ne_of_none gL hD
    refine lc_list (K := K) (a := L) (xs := xs) (fun i H' => ExtN H5 H' ∧ H' D = some (.lst ((List.replicate i true).map V.bl)) ∧ Tabs (TT2 P1 P2) H')
      ⟨ExtN.of (same_new hD), upd_same, hT5.ext (same_new hD)⟩ (fun i H' _ ⟨e, _⟩ => SqL.of (e _ _ gL fun _ z => by cases z)) ?_ ?_
    · rintro i v H' hv ⟨e, gD, tD⟩
      have hi := (List.getElem?_eq_some_iff.mp hv).1
      refine ⟨rfl, ?_⟩
      refine ⟨.ref o, rfl, .ref x, rfl, v, rfl, o, x, p, v, b, m, ms, ks, ws, Ms, rfl, hB5.extN e, ok, hb, hX5.extN e, (vx v (List.mem_of_getElem? hv)).extN e, tD, fun H6 e6 t6 => ?_⟩
      have gD6 := e6 _ _ gD fun _ z => by cases z
      refine ⟨_, gD6, by rw [List.length_map, List.length_replicate]; exact small1000 (by omega), fun b' o' e' n' => ?_, ?_, ?_⟩
      · rw [upd_ne (ne_of_none e' hD)]
        exact e6 _ _ (e _ _ e' n') n'
      · rw [upd_same, List.replicate_succ', List.map_append]
        rfl
      · exact tabs_kp t6 ⟨_, gD6⟩ fun b' o' n' e' => by rw [upd_ne n']; exact e'
    · rintro H6 ⟨e6, gD, t6⟩
      refine ⟨D, _, rfl, SqL.of gD, ?_⟩
      rw [all_true]
      refine ⟨true, rfl, ?_⟩
      refine iteF ?_
      dsimp only [tNext, tSeq]
      have k6 : KpN p H H6 := fun b' o' n' e' m' => e6 _ _ (d05.1 _ _ n' e') m'
      have pot6 : Pot 800000 H6 p := by
        obtain ⟨pa, pb, pc, h1, h2⟩ := d5.2.mono (show 800000 ≤ 880000 by decide)
        exact ⟨pa, pb, pc, e6 _ _ h1 (fun ps z => by cases z), h2⟩
      have hX6 := hX5.extN e6
      have hB6 := hB5.extN e6
      refine ⟨12, rfl, by decide, by decide, fun D2 hD2 => ?_⟩
      have q2 := fresh_ne ⟨_, pot6.lst.choose_spec⟩ hD2
      refine lc_range (lo := 0) (n := 12) (fun i H' => KpN p H6 H' ∧ Pot (800000 - 10 * i) H' p ∧ H' D2 = some (.lst ((List.replicate i true).map V.bl)) ∧ Tabs (TT2 P1 P2) H')
        ⟨fun b' o' n' e' _ => by rw [upd_ne (ne_of_none e' hD2)]; exact e', pot6.same (same_new hD2), upd_same, t6.ext (same_new hD2)⟩ ?_ ?_
      · rintro i H7 hi ⟨k7, p7, g7, t7⟩
        refine ⟨rfl, ?_⟩
        have mv := k7.mv pot6.lst
        refine ⟨.ref p, rfl, .ref o, rfl, .ref x, rfl, p, o, x, 800000 - 10 * (i + 1), b, m, ms, ks, ws, Ms, rfl, p7.mono (by omega), hB6.mv mv, ok, ⟨hX6.obj.mv mv, ok, mats⟩, t7, fun H8 k8 p8 t8 => ?_⟩
        have g8 := k8 _ _ q2 g7 fun _ z => by cases z
        refine ⟨_, g8, by rw [List.length_map, List.length_replicate]; exact small1000 (by omega), fun b' o' n' e' m' => ?_, ?_, ?_, ?_⟩
        · rw [upd_ne (ne_of_none e' hD2)]
          exact k8 _ _ n' (k7 _ _ n' e' m') m'
        · obtain ⟨pa, pb, pc, h1, h2⟩ := p8
          exact ⟨pa, pb, pc, by rw [upd_ne q2.symm]; exact h1, h2⟩
        · rw [upd_same, List.replicate_succ', List.map_append]
          rfl
        · exact tabs_kp t8 ⟨_, g8⟩ fun b' o' n' e' => by rw [upd_ne n']; exact e'
      · rintro H7 ⟨k7, p7, g7, t7⟩
        refine ⟨D2, _, rfl, SqL.of g7, ?_⟩
        rw [all_true]
        exact q H7 (fun b' o' n' e' m' => k7 _ _ n' (k6 _ _ n' e' m') m') t7
def spLaw3 (K : PySem.W.Frag) (P1 P2 : Addr) : Sp := fun vs H Q _ => ∃ (a : Addr) (ns : List Int), vs = [.ref a] ∧ SqL K H a (ns.map V.int) ∧ ns.length ≤ 63 ∧ (∀ z ∈ ns, Builtin.Int.intBits z ≤ 1048576) ∧ Tabs (TT2 P1 P2) H ∧ ∀ H', Q (.bl true) H'
end
end OG
set_option Elab.async false
set_option linter.all false
set_option maxRecDepth 100000
set_option maxHeartbeats 8000000
namespace OG
open PySem PySem.Spec PyProof.Rows L2
theorem cut_one : ∀ {ns : List Int}, ns.length ≤ 1 → cutV (ns.map V.int) none (some 1) = ns.map V.int
  | [], _ => rfl
  | [x], _ => rfl
  | _ :: _ :: _, h => by
    rw [List.length_cons, List.length_cons] at h
    omega
theorem bit_mul {c n : Int} (hn : n = 0 ∨ n = 1) (hc : c.natAbs < 2 ^ 18) : (c * n).natAbs < 2 ^ 20 := by
  rcases hn with rfl | rfl
  · rw [Int.mul_zero]
    decide
  · rw [Int.mul_one]
    exact Nat.lt_trans hc (by decide)
section
variable {P : Program} {w : World} {K : PySem.W.Frag} {mg : Str → Option Value} {base : Heap}
def spPot (K : PySem.W.Frag) : Sp := fun vs H Q _ => ∃ (a : Addr) (ns : List Int) (n : Nat), vs = [.ref a, .int (n : Int)] ∧ n ≤ 1 ∧ SqL K H a (ns.map V.int) ∧ ns.length ≤ 63 ∧ (∀ z ∈ ns, Builtin.Int.intBits z ≤ 1048576) ∧ ∀ (q : Addr) (H' : Hp), Same H H' → H q = none → Pot 900000 H' q → Q (.ref q) H'
theorem ok_l_pot (T : Txt K mg) : FnOk P w K mg base CX0 1 T.f_l_pot T.fd_l_pot ["script", "place"] (spPot K) := by
  refine T.F_l_pot.ok sc_l_pot (fun vs H Q E h => ?_) (fun cdv A outer s H vs Q E hr h => ?_)
  · obtain ⟨a, ns, n, rfl, _⟩ := h
    rfl
  · obtain ⟨a, ns, n, rfl, hn1, hS, hl, hb, q⟩ := h
    have hn01 : (n : Int) = 0 ∨ (n : Int) = 1 := by omega
    refine ⟨_, (pss_cons (ps_set (i := 2) sc_l_pot.nd rfl (Or.inl rfl) (pe_ifExp (pt_cmpR op_lt (pv 1) (pe_callB call_len_seq (by rfl) T.n_len PySem.boot_len (pa_cons (pv 0) pa_nil)) (nomark _)) (pe_ix ix_list (pv 0) (pv 1) (fun _ _ => rfl)) (pe_op op_add (pe_op op_add (pe_op op_mod (pe_callB (cr_sum rfl) (by rfl) T.n_sum (by decide +kernel) (pa_cons (pe_slice sl_list (pv 0) po_none (po_some pe_int)) pa_nil)) pe_int) (pe_op op_mulW pe_int (pv 1))) pe_int)))
  (pss_cons (ps_set (i := 3) sc_l_pot.nd rfl (Or.inl rfl) (pe_op op_mulW (pe_op op_mod (pe_callTy call_int1 (by rfl) T.n_int (by decide +kernel) (pa_cons (pe_callB call_abs (by rfl) T.n_abs (by decide +kernel) (pa_cons (pv 2) pa_nil)) pa_nil)) (pe_op op_powW (pe_op op_powW pe_int pe_int) pe_int)) (pe_callTy call_int1 (by rfl) T.n_int (by decide +kernel) (pa_cons (pe_cmpR op_ge (pe_callB call_abs (by rfl) T.n_abs (by decide +kernel) (pa_cons (pv 2) pa_nil)) (pe_op op_powW pe_int pe_int) (nomark _)) pa_nil))))
  (pss_cons (ps_set (i := 4) sc_l_pot.nd rfl (Or.inl rfl) (pe_op op_mod (pe_callTy call_int1 (by rfl) T.n_int (by decide +kernel) (pa_cons (pv 2) pa_nil)) pe_int))
  (pss_one (ps_ret (pe_lst (pa_cons (pv 3) (pa_cons (pe_op op_mod (pe_callTy call_int1 (by rfl) T.n_int (by decide +kernel) (pa_cons (pe_op op_add (pe_op op_add (pe_op op_mulW (pv 4) pe_int) (pe_op op_mulW (pe_op op_mulW pe_int (pv 1)) (pv 1))) pe_int) pa_nil)) pe_int) (pa_cons pe_int pa_nil))))))))), ?_⟩
    refine seq_fin (fun σ' H' => ∃ c : Int, σ' = [some (.ref a), some (.int (n : Int)), some (.int c), none, none] ∧ Same H H') ?_ (fun fin => ?_)
    · rintro σ' H' ⟨c, rfl, s1⟩
      refine ⟨.int c, rfl, c, rfl, .inl ⟨_, rfl, ?_⟩⟩
      refine ⟨_, _, rfl, rfl, pow_c (by decide), _, _, rfl, rfl, pow_c (by decide +kernel), _, _, rfl, rfl, (show (0 : Int) < ((10 : Int) ^ (60 : Int).toNat) ^ (5 : Int).toNat by decide +kernel), ?_⟩
      refine ⟨.int c, rfl, c, rfl, _, _, rfl, rfl, pow_c (by decide), _, _, rfl, rfl, .inr ⟨_, rfl, ?_⟩⟩
      obtain ⟨ac, hac⟩ : ∃ ac : Int, ac = (if c < 0 then -c else c) := ⟨_, rfl⟩
      rw [← hac]
      have m0 : 0 ≤ ac % ((10 : Int) ^ (60 : Int).toNat) ^ (5 : Int).toNat := Int.emod_nonneg _ (by decide +kernel)
      have m1 : ac % ((10 : Int) ^ (60 : Int).toNat) ^ (5 : Int).toNat < 2 ^ 1000 := Int.lt_trans (Int.emod_lt_of_pos _ (by decide +kernel)) (by decide +kernel)
      obtain ⟨bo, hbo⟩ : ∃ bo : Int, bo = (if decide ((10 : Int) ^ (18 : Int).toNat ≤ ac) = true then 1 else 0) := ⟨_, rfl⟩
      rw [← hbo]
      have b01 : bo = 0 ∨ bo = 1 := by
        rw [hbo]
        split
        · exact .inr rfl
        · exact .inl rfl
      have e1000 : (2 : Int) ^ 1000 = ((2 ^ 1000 : Nat) : Int) := by decide +kernel
      have key : ∀ mo : Int, 0 ≤ mo → mo < 2 ^ 1000 → mo.natAbs < 2 ^ 1000 ∧ 0 ≤ mo * bo ∧ mo * bo < 2 ^ 1000 := by
        intro mo m0 m1
        refine ⟨by omega, ?_, ?_⟩
        · rcases b01 with e | e
          · rw [e, Int.mul_zero]
            exact Int.le_refl _
          · rw [e, Int.mul_one]
            exact m0
        · rcases b01 with e | e
          · rw [e, Int.mul_zero]
            decide +kernel
          · rw [e, Int.mul_one]
            exact m1
      obtain ⟨k1, o0, o1⟩ := key _ m0 m1
      have bn : bo.natAbs < 2 ^ 2 := by omega
      have nn : (n : Int).natAbs < 2 ^ 2 := by omega
      refine ⟨_, _, rfl, rfl, wide_mul (a := 1000) (b := 2) k1 bn (by decide) (by decide) (by decide), ?_⟩
      refine ⟨.int c, rfl, .inl ⟨c, rfl, _, _, rfl, rfl, (show (0 : Int) < 2305843009213693951 by decide), ?_⟩⟩
      have p0 : 0 ≤ c % 2305843009213693951 := Int.emod_nonneg _ (by decide)
      have p1 : c % 2305843009213693951 < 2305843009213693951 := Int.emod_lt_of_pos _ (by decide)
      have e61 : (2 : Nat) ^ 61 = 2305843009213693952 := by decide
      have p2 : (c % 2305843009213693951).natAbs < 2 ^ 61 := by omega
      refine ⟨_, rfl, _, rfl, _, _, rfl, rfl, wide_mul (a := 61) (b := 20) p2 (by decide) (by decide) (by decide) (by decide), ?_⟩
      refine ⟨_, rfl, _, _, rfl, rfl, wide_mul (a := 20) (b := 2) (by decide) nn (by decide) (by decide) (by decide), _, rfl, _, _, rfl, rfl, wide_mul (a := 20) (b := 2) (bit_mul hn01 (by decide)) nn (by decide) (by decide) (by decide), ?_⟩
      refine ⟨_, _, rfl, rfl, _, _, rfl, rfl, .inl ⟨_, rfl, _, _, rfl, rfl, (show (0 : Int) < 2305843009213693921 by decide), ?_⟩⟩
      refine ⟨Nat.le_trans (show 3 ≤ 1000 by decide) (by decide), fun qa hqa => ?_⟩
      refine q qa _ (s1.trans (same_new hqa)) (s1.free hqa) ⟨_, _, _, upd_same, o0, o1, Int.emod_nonneg _ (by decide), ?_, by decide, by decide⟩
      exact Int.lt_trans (Int.emod_lt_of_pos _ (by decide)) (by decide)
    · refine ⟨.int (n : Int), rfl, .ref a, rfl, a, _, rfl, .inl hS, _, _, rfl, rfl, _, rfl, ?_⟩
      rw [List.length_map]
      refine ite2 (fun h => ?_) (fun h => ?_)
      · have h : n < ns.length := by
          have := of_decide_eq_true h
          omega
        refine ⟨.ref a, rfl, .int (n : Int), rfl, a, _, (n : Int), .int ns[n], rfl, rfl, hS, atI_nat (by rw [List.getElem?_map, List.getElem?_eq_getElem h]; rfl), ?_⟩
        exact fin _ _ ⟨_, rfl, Same.refl _⟩
      · have hle : ns.length ≤ 1 := by
          by_cases z : n < ns.length
          · exact absurd (decide_eq_true (show (n : Int) < (ns.length : Int) by omega)) h
          · omega
        refine ⟨.ref a, rfl, _, rfl, a, _, rfl, hS, fun l1 hl1 => ?_⟩
        have s1 := same_new (o := .lst (cutV (ns.map V.int) none (some 1))) hl1
        refine ⟨l1, ns, rfl, SqL.of (by rw [upd_same, cut_one hle]), _, _, rfl, rfl, (show (0 : Int) < 1000003 by decide), ?_⟩
        refine ⟨.int (n : Int), rfl, _, _, rfl, rfl, wide_mul (a := 20) (b := 2) (by decide) (show (n : Int).natAbs < 2 ^ 2 by omega) (by decide) (by decide) (by decide), _, _, rfl, rfl, _, _, rfl, rfl, ?_⟩
        exact fin _ _ ⟨_, rfl, s1⟩
/-- places of cells -/
def spCells (K : PySem.W.Frag) : Sp := fun vs H Q _ => ∃ (a : Addr) (ns : List Int), vs = [.ref a, .int 2] ∧ SqL K H a (ns.map V.int) ∧ ns.length ≤ 63 ∧ ∀ (q : Addr) (c : Nat) (H' : Hp), Same H H' → c ≤ 2 → H' q = some (.lst ((List.range c).map fun (n : Nat) => V.int (n : Int))) → Q (.ref q) H'
theorem ok_l_cells (T : Txt K mg) : FnOk P w K mg base CX0 1 T.f_l_cells T.fd_l_cells ["script", "most"] (spCells K) := by
  refine T.F_l_cells.ok sc_l_cells (fun vs H Q E h => ?_) (fun cdv A outer s H vs Q E hr h => ?_)
  · obtain ⟨a, ns, rfl, _⟩ := h
    rfl
  · obtain ⟨a, ns, rfl, hS, hl, q⟩ := h
    refine ⟨_, (pss_one (ps_ret (pe_listRg (by rfl) (by rfl) T.n_list (prg_1 (by rfl) T.n_range (pe_callB (call_max2 rfl) (by rfl) T.n_max (by decide +kernel) (pa_cons pe_int (pa_cons (pe_callB (call_min2 rfl) (by rfl) T.n_min (by decide +kernel) (pa_cons (pv 1) (pa_cons (pe_callB call_len_seq (by rfl) T.n_len PySem.boot_len (pa_cons (pv 0) pa_nil)) pa_nil))) pa_nil))))))), ?_⟩
    refine ⟨.int 2, rfl, .ref a, rfl, a, _, rfl, .inl hS, ?_⟩
    rw [List.length_map]
    obtain ⟨c, hc, ec⟩ : ∃ c : Nat, c ≤ 2 ∧ (if (if (ns.length : Int) < 2 then (ns.length : Int) else 2) > 1 then (if (ns.length : Int) < 2 then (ns.length : Int) else 2) else 1) = (c : Int) := by
      by_cases h : (ns.length : Int) < 2
      · rw [if_pos h, if_neg (by omega)]
        exact ⟨1, by decide, rfl⟩
      · rw [if_neg h, if_pos (by decide)]
        exact ⟨2, by decide, rfl⟩
    refine ⟨2, _, rfl, 1, _, rfl, _, rfl, ?_⟩
    dsimp only
    rw [ec]
    refine ⟨RgOk.of_le (by omega) (by omega) (by omega) (by omega), fun l hl => ?_⟩
    refine q l c _ (same_new hl) hc ?_
    rw [upd_same]
    unfold rgV
    rw [show ((c : Int) - 0).toNat = c by omega]
    exact congrArg (fun l => some (HO.lst l)) (List.map_congr_left fun i _ => by rw [Int.zero_add])
end
end OG
set_option Elab.async false
set_option linter.all false
set_option maxRecDepth 100000
set_option maxHeartbeats 8000000
namespace OG
open PySem PySem.Spec PyProof.Rows L2 LamX
section
variable {P : Program} {w : World} {K : PySem.W.Frag} {mg : Str → Option Value} {base : Heap}
theorem ok_law (T : Txt K mg) (XT : TxtX K mg T) (XM : TxtM K mg T) {c1 c2 P1 P2 : Addr} (J1 : JAt1 K mg T c1) (J2 : JAt2 K mg T c2) (B1 : TabB base mg c1 P1) (B2 : TabB base mg c2 P2) (ne : P1 ≠ P2) : OGX.FnG P w K mg base 14 T.f_law T.fd_law ["script"] (spLaw3 K P1 P2) := by
  refine OGX.okG T.F_law sc_law (fun vs H Q E h => ?_) (fun cdv A outer s H vs Q E hG hr h => ?_)
  · obtain ⟨a, ns, rfl, _⟩ := h
    rfl
  · obtain ⟨a, ns, rfl, hS, hl, hb, hT, q⟩ := h
    refine ⟨_, (pss_one (ps_ret (pe_callB (cr_all rfl) (by rfl) T.n_all (by decide +kernel) (pa_cons (pe_lc (own := [("place", 1)]) (g := gName 1) (by rfl) sc_law.nd (pi_list (pe_call (ok_l_cells T) (hr.mono (by decide)) (by rfl) T.g_l_cells T.F_l_cells.kp T.b_l_cells .nil pass0 (pa_cons (pv 0) (pa_cons pe_int pa_nil)))) (blkOk_by (own := [("place", 1)]) (by rfl)) (fun _ _ _ _ _ => (pg_name (i := 1) sc_law.nd rfl (Or.inl rfl))) (fun _ _ _ _ _ => pts_nil) (fun _ _ _ _ _ => (OGX.pe_callG (ok_l_right T XT XM J1 J2 B1 B2 ne) hG (hr.mono (by decide)) (by rfl) T.g_l_right T.F_l_right.kp T.b_l_right (pa_cons (pe_call (ok_l_pot T) (hr.mono (by decide)) (by rfl) T.g_l_pot T.F_l_pot.kp T.b_l_pot .nil pass0 (pa_cons (pv 0) (pa_cons (pv 1) pa_nil))) pa_nil)))) pa_nil)))), ?_⟩
    refine ⟨.ref a, rfl, a, ns, rfl, hS, hl, fun qc c H1 s1 hc gq => ?_⟩
    refine ⟨qc, rfl, ⟨_, SqL.of gq⟩, fun D hD => ?_⟩
    have nq : qc ≠ D := ne_of_none gq hD
    have ext : ∀ {H1 H2 : Hp} {b : Addr} {xs : List V}, ExtN H1 H2 → H1 b = some (.lst xs) → H2 b = some (.lst xs) := fun e h => e _ _ h fun _ z => by cases z
    refine lc_list (K := K) (a := qc) (xs := (List.range c).map fun (n : Nat) => V.int (n : Int)) (fun i H' => ExtN H1 H' ∧ H' D = some (.lst ((List.replicate i true).map V.bl)) ∧ Tabs (TT2 P1 P2) H')
      ⟨ExtN.of (same_new hD), upd_same, (hT.ext s1).ext (same_new hD)⟩ (fun i H' _ ⟨s, _⟩ => SqL.of (ext s gq)) ?_ ?_
    · rintro i u H' hu ⟨s, g3, t3⟩
      obtain ⟨hi, rfl⟩ := range_at hu
      refine ⟨rfl, ?_⟩
      refine ⟨.ref a, rfl, .int (i : Int), rfl, a, ns, i, rfl, by omega, SqL.extN hS ((ExtN.of s1).trans s), hl, hb, fun pp H2 s2 np hP => ?_⟩
      refine ⟨pp, rfl, hP, t3.ext s2, fun H3 k3 t4 => ?_⟩
      have k : ∀ {b : Addr} {o : HO}, H' b = some o → (∀ ps, o ≠ .tbl ps) → H3 b = some o := fun {b o} e n => k3 b o (ne_of_none e np) (s2 _ _ e) n
      have g5 := k g3 fun _ z => by cases z
      refine ⟨_, g5, by rw [List.length_map, List.length_replicate]; exact small1000 (by omega), fun b o e n => ?_, ?_, ?_⟩
      · rw [upd_ne (ne_of_none e hD)]
        exact k (s _ _ e n) n
      · rw [upd_same, List.replicate_succ', List.map_append]
        rfl
      · exact tabs_kp t4 ⟨_, g5⟩ kp_self
    · rintro H' ⟨s, g3, _⟩
      refine ⟨D, _, rfl, SqL.of g3, ?_⟩
      rw [all_true]
      exact q H'
end
end OG
set_option Elab.async false
set_option linter.all false
set_option maxRecDepth 100000
set_option maxHeartbeats 4000000
namespace OGX
open PySem PySem.Spec PyProof.Rows L2 LamX
/-- as law_callG, with tables of code objects -/
theorem law_callGL {P : Program} {w : World} {K : PySem.W.Frag} {mg mb : Str → Option Value} {k : Nat} {fa a : Addr} {Ts : List (Addr × Addr)} {fd : FuncData} {x : Str} {sp : Sp} {s₁ : Shared} {vs : List Value} {ns : List Int}
    (KX : K.In s₁.heap) (G : s₁.heap.Ns mainGlobals mg) (B : s₁.heap.Ns builtinsNs mb) (bs : ∀ x : Str, x ≠ "__name__" → mb x = bootBuiltins x) (lim : s₁.heap.NoLimit) (gens : s₁.gens = #[])
    (tP : ∀ t ∈ Ts, s₁.heap.get? t.2 = some { cls := .none, data := .fields #[] }) (kP : ∀ t ∈ Ts, K.lookup t.2 = none) (cd : ∀ t ∈ Ts, PySem.W.CodeHd s₁.heap t.1 t.2)
    (bmod : ∃ (bm : Addr) (ob : Obj), mg "__builtins__" = some (.ref bm) ∧ bm ≠ builtinsNs ∧ s₁.heap.get? bm = some ob ∧ ob.cls = .type "module" ∧ ob.dict = some builtinsNs ∧ ob.data = .plain)
    (ha : s₁.heap.get? a = some { cls := .type "list", data := .seq vs.toArray }) (hi : IntsAre vs ns) (hl : ns.length ≤ sizeLine) (hr : Room k callerA)
    (F : ∀ base : Heap, K.In base → base.Ns mainGlobals mg → (∀ t ∈ Ts, TabB base mg t.1 t.2) → FnG P w K mg base k fa fd [x] sp) (hb : ∀ (s : Shared) (u : Value), BindsTo s fd ⟨[u], []⟩ [(x, u)])
    (hsp : ∀ H : Hp, (∀ t ∈ Ts, H t.2 = some (.tbl #[])) → SqL K H a (ns.map V.int) → sp [.ref a] H (fun v _ => v = .bl true) E0) :
    codeAny (model P w) callerA (.call (.ref fa) ⟨[.ref a], []⟩) (fun r s' => r = .ok (.ret (.bool true)) ∧ OldK s₁.heap s'.heap ∧ s'.os = s₁.os ∧ AllBare s'.gens) s₁ := by
  have rv := vals_ints hi
  have naP : ∀ t ∈ Ts, a ≠ t.2 := fun t ht z => by
    rw [z, tP t ht] at ha
    cases ha
  have go : ∀ H : Hp, (∀ t ∈ Ts, H t.2 = some (.tbl #[])) → (∀ b u, H b = some u → (∃ t ∈ Ts, b = t.2) ∨ (b = a ∧ K.lookup a = none ∧ u = .frz { cls := .type "list", data := .seq vs.toArray } (.lst (ns.map V.int)))) → SqL K H a (ns.map V.int) →
      codeAny (model P w) callerA (.call (.ref fa) ⟨[.ref a], []⟩) (fun r s' => r = .ok (.ret (.bool true)) ∧ OldK s₁.heap s'.heap ∧ s'.os = s₁.os ∧ AllBare s'.gens) s₁ := by
    intro H hP hH hS
    have out : ∀ {b : Addr} {o : Obj}, s₁.heap.get? b = some o → (b = a → False) → ((∃ t ∈ Ts, b = t.2) → False) → (hidT s₁.heap H).get? b = some o := fun {b o} e n m => hidT_get e (by
      cases q : H b with
      | none => rfl
      | some u => exact ((hH b u q).elim m fun z => n z.1).elim)
    have ns1 : ∀ {b : Addr} {m : Str → Option Value}, s₁.heap.Ns b m → (hidT s₁.heap H).Ns b m := by
      rintro b m ⟨o, es, ep, e, d, r⟩
      refine ⟨o, es, ep, out e (fun z => ?_) (fun z => ?_), d, r⟩
      · rw [z, ha] at e
        cases e
        cases d
      · obtain ⟨t, ht, z⟩ := z
        rw [z, tP t ht] at e
        cases e
        cases d
    have K1 : K.In (hidT s₁.heap H) := fun b o e => hidT_get (KX b o e) (by
      cases q : H b with
      | none => rfl
      | some u =>
        rcases hH b u q with ⟨t, ht, z⟩ | ⟨z, hk, _⟩
        · rw [z, kP t ht] at e
          cases e
        · rw [z, hk] at e
          cases e)
    have TB : ∀ t ∈ Ts, TabB (hidT s₁.heap H) mg t.1 t.2 := by
      intro t ht
      refine ⟨?_, ?_, fun z => ?_⟩
      · obtain ⟨o, us, file, tf, flags, tg, inF, text, tt, e1, r1, r2, r3, r4, r5, r6, r7, r8, ne⟩ := cd t ht
        refine ⟨o, us, file, tf, flags, tg, inF, text, tt, out e1 (fun z => ?_) (fun z => ?_), r1, r2, r3, r4, r5, r6, r7, r8, ne⟩
        · rw [z, ha] at e1
          cases e1
          exact absurd r1 (by simp)
        · obtain ⟨t', ht', z⟩ := z
          rw [z, tP t' ht'] at e1
          cases e1
          exact absurd r1 (by simp)
      · obtain ⟨bm, ob, b1, b2, b3, b4, b5, b6⟩ := bmod
        refine ⟨bm, ob, b1, b2, fun z => ?_, fun z => ?_, out b3 (fun z => ?_) (fun z => ?_), b4, b5, b6⟩
        · obtain ⟨o, es, ep, e, d, _⟩ := G
          rw [z, e] at b3
          cases b3
          rw [d] at b6
          cases b6
        · rw [z, tP t ht] at b3
          cases b3
          cases b6
        · rw [z, ha] at b3
          cases b3
          cases b6
        · obtain ⟨t', ht', z⟩ := z
          rw [z, tP t' ht'] at b3
          cases b3
          cases b6
      · obtain ⟨o, es, ep, e, d, _⟩ := G
        rw [z, tP t ht] at e
        cases e
        cases d
    obtain ⟨mc, l1, l2⟩ := lim
    have e0 : Env0 P w K mg (hidT s₁.heap H) callerA [] s₁ H := {
      frames := rfl
      mod := ⟨K1, ns1 G, ⟨mb, ns1 B, bs⟩, ⟨mc, ns1 l1, l2⟩⟩
      bs := fun b o e => of_hidT e
      bsz := Nat.le_of_eq (hidT_size _ _)
      funs := trivial
      frf := fun b z => by cases z
      hok := fun b u q => by
        rcases hH b u q with ⟨t, ht, z⟩ | ⟨z, _, rfl⟩
        · rw [z] at q ⊢
          rw [hP t ht] at q
          cases q
          exact tP t ht
        · rw [z]
          exact ⟨ha, by rw [List.length_map]; exact hl, vs, _, rv, ha⟩
      bare := .of_eq gens }
    refine codeAny_mono ((F _ K1 (ns1 G) TB).run callerA [] s₁ H ⟨[.ref a], []⟩ [.ref a] [.ref a] _ _ rfl hr e0 (hb s₁ (.ref a)) (.cons rfl .nil) (hsp H hP hS)) fun r s' z => ?_
    rcases r with e | fl
    · exact z.elim
    rcases fl with _ | _ | _ | u
    case next => exact z.elim
    case brk => exact z.elim
    case cont => exact z.elim
    obtain ⟨v, H', os, bare, un, ok', rv', q⟩ := z
    cases (show v = .bl true from q)
    cases (show u = Value.bool true from rv')
    have kept : ∀ b o, (¬ ∃ t ∈ Ts, b = t.2) → s₁.heap.get? b = some o → s'.heap.get? b = some o := fun b o n e => by
      cases q : H b with
      | none => exact un.keep b o e q (fun z => by cases z) (fun z => by cases z)
      | some t =>
        rcases hH b t q with z | ⟨rfl, _, rfl⟩
        · exact absurd z n
        · obtain ⟨g, _⟩ := ok' b _ (un.frzs b _ _ q)
          rw [ha] at e
          cases e
          exact g
    have gr : ∀ t ∈ Ts, ∃ more, s'.heap.get? t.2 = some { cls := .none, data := .fields (#[] ++ more) } := fun t ht => by
      obtain ⟨more, gr⟩ := un.tbls t.2 #[] (hP t ht)
      exact ⟨more, ok' t.2 _ gr⟩
    refine ⟨rfl, ⟨fun b o e => ?_, fun b o e => ?_⟩, os, bare⟩
    · by_cases h : ∃ t ∈ Ts, b = t.2
      · obtain ⟨t, ht, h⟩ := h
        obtain ⟨more, gr⟩ := gr t ht
        rw [h, tP t ht] at e
        cases e
        rw [h]
        exact .inr (.inl ⟨((cd t ht).tab (tP t ht)).isCodeTable, rfl, #[], more, rfl, gr⟩)
      · exact .inl (kept b o h e)
    · by_cases h : ∃ t ∈ Ts, b = t.2
      · obtain ⟨t, ht, h⟩ := h
        obtain ⟨more, gr⟩ := gr t ht
        rw [h]
        exact ⟨_, gr⟩
      · exact ⟨o, kept b o h e⟩
  have isT : ∀ b, (Ts.any fun t => decide (t.2 = b)) = true ↔ ∃ t ∈ Ts, b = t.2 := fun b => by
    rw [List.any_eq_true]
    exact ⟨fun ⟨t, ht, e⟩ => ⟨t, ht, (of_decide_eq_true e).symm⟩, fun ⟨t, ht, e⟩ => ⟨t, ht, decide_eq_true e.symm⟩⟩
  cases hk : K.lookup a with
  | some o =>
    have e := KX a o hk
    rw [ha] at e
    cases e
    refine go (fun b => if (Ts.any fun t => decide (t.2 = b)) = true then some (.tbl #[]) else none) (fun t ht => if_pos ((isT _).mpr ⟨t, ht, rfl⟩)) (fun b u z => ?_) (.inr ⟨_, vs.toArray, _, hk, rfl, rfl, rfl, by rw [List.size_toArray, hi.length]; exact hl, by simpa using rv⟩)
    by_cases h : (Ts.any fun t => decide (t.2 = b)) = true
    · exact .inl ((isT _).mp h)
    · cases (if_neg h).symm.trans z
  | none =>
    refine go (fun b => if (Ts.any fun t => decide (t.2 = b)) = true then some (.tbl #[]) else if b = a then some (.frz { cls := .type "list", data := .seq vs.toArray } (.lst (ns.map V.int))) else none) (fun t ht => if_pos ((isT _).mpr ⟨t, ht, rfl⟩)) (fun b u z => ?_) (.inl (.inr ⟨{ cls := .type "list", data := .seq vs.toArray }, (if_neg fun z => by
      obtain ⟨t, ht, z⟩ := (isT _).mp z
      exact naP t ht z).trans (if_pos rfl)⟩))
    by_cases h : (Ts.any fun t => decide (t.2 = b)) = true
    · exact .inl ((isT _).mp h)
    · have z := (if_neg h).symm.trans z
      by_cases h2 : b = a
      · exact .inr ⟨h2, hk, (Option.some.inj ((if_pos h2).symm.trans z)).symm⟩
      · cases (if_neg h2).symm.trans z
theorem walkGL {l : PySem.W.OpenLaw} {n k : Nat} {q : Program} {loose : List Str} {XP : (Str → Option Value) → Heap → Prop} {YP : World → Heap → Prop} {d : DefRec} {K : Params → PySem.W.Frag} {x : Str}
    (h1 : l.most = some n) (h2 : n ≤ sizeLine) (h3 : d.params.defaults = []) (h4 : Room k callerA) (h5 : ∀ (w : World) (h : Heap), YP w h → (K w.params).In h)
    (h6 : ∀ (w : World) (mg : Str → Option Value) (fa : Addr) (h : Heap), YP w h → XP mg h → (K w.params).In h → h.Ns mainGlobals mg → mg d.name = some (.ref fa) → ∃ (fd : FuncData) (sp : Sp) (Ts : List (Addr × Addr)), (∀ t ∈ Ts, h.get? t.2 = some { cls := .none, data := .fields #[] }) ∧ (∀ t ∈ Ts, (K w.params).lookup t.2 = none) ∧ (∀ t ∈ Ts, PySem.W.CodeHd h t.1 t.2) ∧
      (∀ (s : Shared) (u : Value), BindsTo s fd ⟨[u], []⟩ [(x, u)]) ∧
      (∀ (H : Hp) (a : Addr) (ns : List Int), ns.length ≤ n → (∀ z ∈ ns, Builtin.Int.intBits z ≤ 1048576) → (∀ t ∈ Ts, H t.2 = some (.tbl #[])) → SqL (K w.params) H a (ns.map V.int) → sp [.ref a] H (fun v _ => v = .bl true) E0) ∧
      ∀ base : Heap, (K w.params).In base → base.Ns mainGlobals mg → (∀ t ∈ Ts, TabB base mg t.1 t.2) → FnG l.prog w (K w.params) mg base k fa fd [x] sp) :
    PySem.W.WalkO q loose XP YP l.row.toRowW d [] (fun f vs => PySem.call f vs) := by
  refine Att.attach_callB h1 h3 fun w a0 a1 mg mb fa o pm cd doc a vs ns G Y b1 b2 b3 b4 b5 b6 b7 b8 b9 => ?_
  have X := h5 w _ Y
  obtain ⟨fd, sp, Ts, c1, c2, c3, c4, c5, c6⟩ := h6 w mg fa _ Y G.X X G.T.g b4
  exact law_callGL X G.T.g G.T.b G.T.builtins G.T.nolimit b9 c1 c2 c3 G.T.bmain b5 b6 (Nat.le_trans b7 h2) h4 c6 c4 fun H hP hS => c5 H a ns b7 b8 hP hS
end OGX
set_option Elab.async false
set_option linter.all false
set_option maxRecDepth 100000
set_option maxHeartbeats 0
namespace OG
open PySem PySem.Spec PyProof.Rows L2 LamX
theorem kit_ref {K : PySem.W.Frag} {C D : Addr} {b : Bool} (n : C ≠ D) (h1 : PySem.W.isClsIn K D = true) (h2 : PySem.W.typeIn K (.ref D) = some (.type "type")) (h3 : PySem.W.subIn K (.ref C) (.ref D) = some b) : PySem.W.kitOne K (.ref C) (.ref D) = some b := by
  unfold PySem.W.kitOne
  rw [if_neg (by simp [n])]
  show (if ((PySem.W.clsIn K D).isSome && PySem.W.typeIn K (.ref D) == some (.type "type")) = true then PySem.W.subIn K (.ref C) (.ref D) else none) = some b
  rw [show (PySem.W.clsIn K D).isSome = true from h1, h2, if_pos (by simp), h3]
theorem all_mk {l : PySem.W.OpenLaw} {w : World} {K : PySem.W.Frag} {h : Heap} {mg : Str → Option Value} {fa P1 P2 : Addr} (X : K.In h) (G : h.Ns mainGlobals mg) (hfa : mg "law" = some (.ref fa))
    (hG : ∃ v, mg "GREATEST" = some v ∧ PySem.W.ReadsLit h v (.int 1000000000000) []) (hP1 : h.get? P1 = some { cls := .none, data := .fields #[] }) (hP2 : h.get? P2 = some { cls := .none, data := .fields #[] })
    {c_BadBook c_NoMark c_NoKind c_BadNames c_GateError c_Book aP cJ1 cJ2 NnBadBook NnNoMark NnNoKind NnBadNames f_is_integer f_is_by f_GateError_init f_integer_of f_is_letters f_is_of f_Book_init f_Book_len f_Book_contains f_Book_eq f_Book_weight f_Book_worth f_renamed f_read_book f_read_by f_is_mark f_is_kind f_is_number f_are_names f_table f_book_of f_l_pot f_l_take f_l_of f_l_some f_l_cells f_l_heard f_l_odd f_l_bent f_l_bent_line f_l_bent_text f_l_book_names f_l_book_weights f_l_book_table f_l_book_twinned f_l_book_of f_l_book_drawn f_l_book_text f_l_book_picked f_l_is_name f_l_are_names f_l_is_renamed_right f_l_some_names f_l_is_refusal f_l_is_asked_right f_l_right f_law : Addr}
    {dP ddBadBook ddNoMark ddNoKind ddBadNames od_is_integer od_is_by od_GateError_init od_integer_of od_is_letters od_is_of od_Book_init od_Book_len od_Book_contains od_Book_eq od_Book_weight od_Book_worth od_renamed od_read_book od_read_by od_is_mark od_is_kind od_is_number od_are_names od_table od_book_of od_l_pot od_l_take od_l_of od_l_some od_l_cells od_l_heard od_l_odd od_l_bent od_l_bent_line od_l_bent_text od_l_book_names od_l_book_weights od_l_book_table od_l_book_twinned od_l_book_of od_l_book_drawn od_l_book_text od_l_book_picked od_l_is_name od_l_are_names od_l_is_renamed_right od_l_some_names od_l_is_refusal od_l_is_asked_right od_l_right od_law an_is_integer an_is_by an_GateError_init an_integer_of an_is_letters an_is_of an_Book_init an_Book_len an_Book_contains an_Book_eq an_Book_weight an_Book_worth an_renamed an_read_book an_read_by an_is_mark an_is_kind an_is_number an_are_names an_table an_book_of an_l_pot an_l_take an_l_of an_l_some an_l_cells an_l_heard an_l_odd an_l_bent an_l_bent_line an_l_bent_text an_l_book_names an_l_book_weights an_l_book_table an_l_book_twinned an_l_book_of an_l_book_drawn an_l_book_text an_l_book_picked an_l_is_name an_l_are_names an_l_is_renamed_right an_l_some_names an_l_is_refusal an_l_is_asked_right an_l_right an_law : Option Addr}
    {slP sl_is_integer sl_is_by sl_GateError_init sl_integer_of sl_is_letters sl_is_of sl_Book_init sl_Book_len sl_Book_contains sl_Book_eq sl_Book_weight sl_Book_worth sl_renamed sl_read_book sl_read_by sl_is_mark sl_is_kind sl_is_number sl_are_names sl_table sl_book_of sl_l_pot sl_l_take sl_l_of sl_l_some sl_l_cells sl_l_heard sl_l_odd sl_l_bent sl_l_bent_line sl_l_bent_text sl_l_book_names sl_l_book_weights sl_l_book_table sl_l_book_twinned sl_l_book_of sl_l_book_drawn sl_l_book_text sl_l_book_picked sl_l_is_name sl_l_are_names sl_l_is_renamed_right sl_l_some_names sl_l_is_refusal sl_l_is_asked_right sl_l_right sl_law : Array (Option Value)}
    {oc_is_integer kV_is_integer dc_is_integer pm_is_integer ct_is_integer cd_is_integer oc_is_by kV_is_by dc_is_by pm_is_by ct_is_by cd_is_by oc_GateError_init kV_GateError_init dc_GateError_init pm_GateError_init ct_GateError_init cd_GateError_init oc_integer_of kV_integer_of dc_integer_of pm_integer_of ct_integer_of cd_integer_of oc_is_letters kV_is_letters dc_is_letters pm_is_letters ct_is_letters cd_is_letters oc_is_of kV_is_of dc_is_of pm_is_of ct_is_of cd_is_of oc_Book_init kV_Book_init dc_Book_init pm_Book_init ct_Book_init cd_Book_init oc_Book_len kV_Book_len dc_Book_len pm_Book_len ct_Book_len cd_Book_len oc_Book_contains kV_Book_contains dc_Book_contains pm_Book_contains ct_Book_contains cd_Book_contains oc_Book_eq kV_Book_eq dc_Book_eq pm_Book_eq ct_Book_eq cd_Book_eq oc_Book_weight kV_Book_weight dc_Book_weight pm_Book_weight ct_Book_weight cd_Book_weight oc_Book_worth kV_Book_worth dc_Book_worth pm_Book_worth ct_Book_worth cd_Book_worth oc_renamed kV_renamed dc_renamed pm_renamed ct_renamed cd_renamed oc_read_book kV_read_book dc_read_book pm_read_book ct_read_book cd_read_book oc_read_by kV_read_by dc_read_by pm_read_by ct_read_by cd_read_by oc_is_mark kV_is_mark dc_is_mark pm_is_mark ct_is_mark cd_is_mark oc_is_kind kV_is_kind dc_is_kind pm_is_kind ct_is_kind cd_is_kind oc_is_number kV_is_number dc_is_number pm_is_number ct_is_number cd_is_number oc_are_names kV_are_names dc_are_names pm_are_names ct_are_names cd_are_names oc_table kV_table dc_table pm_table ct_table cd_table oc_book_of kV_book_of dc_book_of pm_book_of ct_book_of cd_book_of oc_l_pot kV_l_pot dc_l_pot pm_l_pot ct_l_pot cd_l_pot oc_l_take kV_l_take dc_l_take pm_l_take ct_l_take cd_l_take oc_l_of kV_l_of dc_l_of pm_l_of ct_l_of cd_l_of oc_l_some kV_l_some dc_l_some pm_l_some ct_l_some cd_l_some oc_l_cells kV_l_cells dc_l_cells pm_l_cells ct_l_cells cd_l_cells oc_l_heard kV_l_heard dc_l_heard pm_l_heard ct_l_heard cd_l_heard oc_l_odd kV_l_odd dc_l_odd pm_l_odd ct_l_odd cd_l_odd oc_l_bent kV_l_bent dc_l_bent pm_l_bent ct_l_bent cd_l_bent oc_l_bent_line kV_l_bent_line dc_l_bent_line pm_l_bent_line ct_l_bent_line cd_l_bent_line oc_l_bent_text kV_l_bent_text dc_l_bent_text pm_l_bent_text ct_l_bent_text cd_l_bent_text oc_l_book_names kV_l_book_names dc_l_book_names pm_l_book_names ct_l_book_names cd_l_book_names oc_l_book_weights kV_l_book_weights dc_l_book_weights pm_l_book_weights ct_l_book_weights cd_l_book_weights oc_l_book_table kV_l_book_table dc_l_book_table pm_l_book_table ct_l_book_table cd_l_book_table oc_l_book_twinned kV_l_book_twinned dc_l_book_twinned pm_l_book_twinned ct_l_book_twinned cd_l_book_twinned oc_l_book_of kV_l_book_of dc_l_book_of pm_l_book_of ct_l_book_of cd_l_book_of oc_l_book_drawn kV_l_book_drawn dc_l_book_drawn pm_l_book_drawn ct_l_book_drawn cd_l_book_drawn oc_l_book_text kV_l_book_text dc_l_book_text pm_l_book_text ct_l_book_text cd_l_book_text oc_l_book_picked kV_l_book_picked dc_l_book_picked pm_l_book_picked ct_l_book_picked cd_l_book_picked oc_l_is_name kV_l_is_name dc_l_is_name pm_l_is_name ct_l_is_name cd_l_is_name oc_l_are_names kV_l_are_names dc_l_are_names pm_l_are_names ct_l_are_names cd_l_are_names oc_l_is_renamed_right kV_l_is_renamed_right dc_l_is_renamed_right pm_l_is_renamed_right ct_l_is_renamed_right oc_l_some_names kV_l_some_names dc_l_some_names pm_l_some_names ct_l_some_names cd_l_some_names oc_l_is_refusal kV_l_is_refusal dc_l_is_refusal pm_l_is_refusal ct_l_is_refusal cd_l_is_refusal oc_l_is_asked_right kV_l_is_asked_right dc_l_is_asked_right pm_l_is_asked_right ct_l_is_asked_right oc_l_right kV_l_right dc_l_right pm_l_right ct_l_right cd_l_right oc_law kV_law dc_law pm_law ct_law cd_law : Value}
    {t_LETTERS t_FIGURES t_MOST_MARKS t_MOST_KINDS : Tok} {uP : Array Value} {nP : Nat}
    {nmBadBook qnBadBook : Str} {bsBadBook : List Value} {snBadBook : List Str} {subBadBook : List Value} {abBadBook : Bool} {colBadBook : Option Bool} {x0BadBook x1BadBook x2BadBook x3BadBook x5BadBook : Option Value}
    {nmNoMark qnNoMark : Str} {bsNoMark : List Value} {snNoMark : List Str} {subNoMark : List Value} {abNoMark : Bool} {colNoMark : Option Bool} {x0NoMark x1NoMark x2NoMark x3NoMark x5NoMark : Option Value}
    {nmNoKind qnNoKind : Str} {bsNoKind : List Value} {snNoKind : List Str} {subNoKind : List Value} {abNoKind : Bool} {colNoKind : Option Bool} {x0NoKind x1NoKind x2NoKind x3NoKind x5NoKind : Option Value}
    {nmBadNames qnBadNames : Str} {bsBadNames : List Value} {snBadNames : List Str} {subBadNames : List Value} {abBadNames : Bool} {colBadNames : Option Bool} {x0BadNames x1BadNames x2BadNames x3BadNames x5BadNames : Option Value}
    (a_BadBook : PySem.W.nsIn K mainGlobals "BadBook" = some (some (.ref c_BadBook)))
    (a_NoMark : PySem.W.nsIn K mainGlobals "NoMark" = some (some (.ref c_NoMark)))
    (a_NoKind : PySem.W.nsIn K mainGlobals "NoKind" = some (some (.ref c_NoKind)))
    (a_BadNames : PySem.W.nsIn K mainGlobals "BadNames" = some (some (.ref c_BadNames)))
    (a_GateError : PySem.W.nsIn K mainGlobals "GateError" = some (some (.ref c_GateError)))
    (a_Book : PySem.W.nsIn K mainGlobals "Book" = some (some (.ref c_Book)))
    (a_is_integer : PySem.W.nsIn K mainGlobals "is_integer" = some (some (.ref f_is_integer)))
    (l_is_integer : K.lookup f_is_integer = some ⟨oc_is_integer, od_is_integer, .func (PySem.W.fnOf "is_integer" "is_integer" (defArgs s_is_integer) (defBody s_is_integer) (defScope s_is_integer) .none kV_is_integer dc_is_integer pm_is_integer an_is_integer cd_is_integer ct_is_integer), sl_is_integer⟩)
    (c_is_integer : PySem.W.codeIn K cd_is_integer "is_integer" = true)
    (k_is_integer : PySem.W.keepIn K (.ref f_is_integer) = true)
    (a_is_by : PySem.W.nsIn K mainGlobals "is_by" = some (some (.ref f_is_by)))
    (l_is_by : K.lookup f_is_by = some ⟨oc_is_by, od_is_by, .func (PySem.W.fnOf "is_by" "is_by" (defArgs s_is_by) (defBody s_is_by) (defScope s_is_by) .none kV_is_by dc_is_by pm_is_by an_is_by cd_is_by ct_is_by), sl_is_by⟩)
    (c_is_by : PySem.W.codeIn K cd_is_by "is_by" = true)
    (k_is_by : PySem.W.keepIn K (.ref f_is_by) = true)
    (a_GateError_init : PySem.W.findIn K (.ref c_GateError) "__init__" = some (some (.ref f_GateError_init)))
    (l_GateError_init : K.lookup f_GateError_init = some ⟨oc_GateError_init, od_GateError_init, .func (PySem.W.fnOf "__init__" "GateError.__init__" (defArgs s_GateError_init) (defBody s_GateError_init) (defScope s_GateError_init) .none kV_GateError_init dc_GateError_init pm_GateError_init an_GateError_init cd_GateError_init ct_GateError_init), sl_GateError_init⟩)
    (c_GateError_init : PySem.W.codeIn K cd_GateError_init "GateError.__init__" = true)
    (k_GateError_init : PySem.W.keepIn K (.ref f_GateError_init) = true)
    (a_integer_of : PySem.W.nsIn K mainGlobals "integer_of" = some (some (.ref f_integer_of)))
    (l_integer_of : K.lookup f_integer_of = some ⟨oc_integer_of, od_integer_of, .func (PySem.W.fnOf "integer_of" "integer_of" (defArgs s_integer_of) (defBody s_integer_of) (defScope s_integer_of) .none kV_integer_of dc_integer_of pm_integer_of an_integer_of cd_integer_of ct_integer_of), sl_integer_of⟩)
    (c_integer_of : PySem.W.codeIn K cd_integer_of "integer_of" = true)
    (k_integer_of : PySem.W.keepIn K (.ref f_integer_of) = true)
    (a_is_letters : PySem.W.nsIn K mainGlobals "is_letters" = some (some (.ref f_is_letters)))
    (l_is_letters : K.lookup f_is_letters = some ⟨oc_is_letters, od_is_letters, .func (PySem.W.fnOf "is_letters" "is_letters" (defArgs s_is_letters) (defBody s_is_letters) (defScope s_is_letters) .none kV_is_letters dc_is_letters pm_is_letters an_is_letters cd_is_letters ct_is_letters), sl_is_letters⟩)
    (c_is_letters : PySem.W.codeIn K cd_is_letters "is_letters" = true)
    (k_is_letters : PySem.W.keepIn K (.ref f_is_letters) = true)
    (a_is_of : PySem.W.nsIn K mainGlobals "_is_of" = some (some (.ref f_is_of)))
    (l_is_of : K.lookup f_is_of = some ⟨oc_is_of, od_is_of, .func (PySem.W.fnOf "_is_of" "_is_of" (defArgs s_is_of) (defBody s_is_of) (defScope s_is_of) .none kV_is_of dc_is_of pm_is_of an_is_of cd_is_of ct_is_of), sl_is_of⟩)
    (c_is_of : PySem.W.codeIn K cd_is_of "_is_of" = true)
    (k_is_of : PySem.W.keepIn K (.ref f_is_of) = true)
    (a_Book_init : PySem.W.findIn K (.ref c_Book) "__init__" = some (some (.ref f_Book_init)))
    (l_Book_init : K.lookup f_Book_init = some ⟨oc_Book_init, od_Book_init, .func (PySem.W.fnOf "__init__" "Book.__init__" (defArgs s_Book_init) (defBody s_Book_init) (defScope s_Book_init) .none kV_Book_init dc_Book_init pm_Book_init an_Book_init cd_Book_init ct_Book_init), sl_Book_init⟩)
    (c_Book_init : PySem.W.codeIn K cd_Book_init "Book.__init__" = true)
    (k_Book_init : PySem.W.keepIn K (.ref f_Book_init) = true)
    (a_Book_len : PySem.W.findIn K (.ref c_Book) "__len__" = some (some (.ref f_Book_len)))
    (l_Book_len : K.lookup f_Book_len = some ⟨oc_Book_len, od_Book_len, .func (PySem.W.fnOf "__len__" "Book.__len__" (defArgs s_Book_len) (defBody s_Book_len) (defScope s_Book_len) .none kV_Book_len dc_Book_len pm_Book_len an_Book_len cd_Book_len ct_Book_len), sl_Book_len⟩)
    (c_Book_len : PySem.W.codeIn K cd_Book_len "Book.__len__" = true)
    (k_Book_len : PySem.W.keepIn K (.ref f_Book_len) = true)
    (a_Book_contains : PySem.W.findIn K (.ref c_Book) "__contains__" = some (some (.ref f_Book_contains)))
    (l_Book_contains : K.lookup f_Book_contains = some ⟨oc_Book_contains, od_Book_contains, .func (PySem.W.fnOf "__contains__" "Book.__contains__" (defArgs s_Book_contains) (defBody s_Book_contains) (defScope s_Book_contains) .none kV_Book_contains dc_Book_contains pm_Book_contains an_Book_contains cd_Book_contains ct_Book_contains), sl_Book_contains⟩)
    (c_Book_contains : PySem.W.codeIn K cd_Book_contains "Book.__contains__" = true)
    (k_Book_contains : PySem.W.keepIn K (.ref f_Book_contains) = true)
    (a_Book_eq : PySem.W.findIn K (.ref c_Book) "__eq__" = some (some (.ref f_Book_eq)))
    (l_Book_eq : K.lookup f_Book_eq = some ⟨oc_Book_eq, od_Book_eq, .func (PySem.W.fnOf "__eq__" "Book.__eq__" (defArgs s_Book_eq) (defBody s_Book_eq) (defScope s_Book_eq) .none kV_Book_eq dc_Book_eq pm_Book_eq an_Book_eq cd_Book_eq ct_Book_eq), sl_Book_eq⟩)
    (c_Book_eq : PySem.W.codeIn K cd_Book_eq "Book.__eq__" = true)
    (k_Book_eq : PySem.W.keepIn K (.ref f_Book_eq) = true)
    (a_Book_weight : PySem.W.findIn K (.ref c_Book) "weight" = some (some (.ref f_Book_weight)))
    (l_Book_weight : K.lookup f_Book_weight = some ⟨oc_Book_weight, od_Book_weight, .func (PySem.W.fnOf "weight" "Book.weight" (defArgs s_Book_weight) (defBody s_Book_weight) (defScope s_Book_weight) .none kV_Book_weight dc_Book_weight pm_Book_weight an_Book_weight cd_Book_weight ct_Book_weight), sl_Book_weight⟩)
    (c_Book_weight : PySem.W.codeIn K cd_Book_weight "Book.weight" = true)
    (k_Book_weight : PySem.W.keepIn K (.ref f_Book_weight) = true)
    (a_Book_worth : PySem.W.findIn K (.ref c_Book) "worth" = some (some (.ref f_Book_worth)))
    (l_Book_worth : K.lookup f_Book_worth = some ⟨oc_Book_worth, od_Book_worth, .func (PySem.W.fnOf "worth" "Book.worth" (defArgs s_Book_worth) (defBody s_Book_worth) (defScope s_Book_worth) .none kV_Book_worth dc_Book_worth pm_Book_worth an_Book_worth cd_Book_worth ct_Book_worth), sl_Book_worth⟩)
    (c_Book_worth : PySem.W.codeIn K cd_Book_worth "Book.worth" = true)
    (k_Book_worth : PySem.W.keepIn K (.ref f_Book_worth) = true)
    (a_renamed : PySem.W.nsIn K mainGlobals "renamed" = some (some (.ref f_renamed)))
    (l_renamed : K.lookup f_renamed = some ⟨oc_renamed, od_renamed, .func (PySem.W.fnOf "renamed" "renamed" (defArgs s_renamed) (defBody s_renamed) (defScope s_renamed) .none kV_renamed dc_renamed pm_renamed an_renamed cd_renamed ct_renamed), sl_renamed⟩)
    (c_renamed : PySem.W.codeIn K cd_renamed "renamed" = true)
    (k_renamed : PySem.W.keepIn K (.ref f_renamed) = true)
    (a_read_book : PySem.W.nsIn K mainGlobals "_read_book" = some (some (.ref f_read_book)))
    (l_read_book : K.lookup f_read_book = some ⟨oc_read_book, od_read_book, .func (PySem.W.fnOf "_read_book" "_read_book" (defArgs s_read_book) (defBody s_read_book) (defScope s_read_book) .none kV_read_book dc_read_book pm_read_book an_read_book cd_read_book ct_read_book), sl_read_book⟩)
    (c_read_book : PySem.W.codeIn K cd_read_book "_read_book" = true)
    (k_read_book : PySem.W.keepIn K (.ref f_read_book) = true)
    (a_read_by : PySem.W.nsIn K mainGlobals "_read_by" = some (some (.ref f_read_by)))
    (l_read_by : K.lookup f_read_by = some ⟨oc_read_by, od_read_by, .func (PySem.W.fnOf "_read_by" "_read_by" (defArgs s_read_by) (defBody s_read_by) (defScope s_read_by) .none kV_read_by dc_read_by pm_read_by an_read_by cd_read_by ct_read_by), sl_read_by⟩)
    (c_read_by : PySem.W.codeIn K cd_read_by "_read_by" = true)
    (k_read_by : PySem.W.keepIn K (.ref f_read_by) = true)
    (a_is_mark : PySem.W.nsIn K mainGlobals "_is_mark" = some (some (.ref f_is_mark)))
    (l_is_mark : K.lookup f_is_mark = some ⟨oc_is_mark, od_is_mark, .func (PySem.W.fnOf "_is_mark" "_is_mark" (defArgs s_is_mark) (defBody s_is_mark) (defScope s_is_mark) .none kV_is_mark dc_is_mark pm_is_mark an_is_mark cd_is_mark ct_is_mark), sl_is_mark⟩)
    (c_is_mark : PySem.W.codeIn K cd_is_mark "_is_mark" = true)
    (k_is_mark : PySem.W.keepIn K (.ref f_is_mark) = true)
    (a_is_kind : PySem.W.nsIn K mainGlobals "_is_kind" = some (some (.ref f_is_kind)))
    (l_is_kind : K.lookup f_is_kind = some ⟨oc_is_kind, od_is_kind, .func (PySem.W.fnOf "_is_kind" "_is_kind" (defArgs s_is_kind) (defBody s_is_kind) (defScope s_is_kind) .none kV_is_kind dc_is_kind pm_is_kind an_is_kind cd_is_kind ct_is_kind), sl_is_kind⟩)
    (c_is_kind : PySem.W.codeIn K cd_is_kind "_is_kind" = true)
    (k_is_kind : PySem.W.keepIn K (.ref f_is_kind) = true)
    (a_is_number : PySem.W.nsIn K mainGlobals "_is_number" = some (some (.ref f_is_number)))
    (l_is_number : K.lookup f_is_number = some ⟨oc_is_number, od_is_number, .func (PySem.W.fnOf "_is_number" "_is_number" (defArgs s_is_number) (defBody s_is_number) (defScope s_is_number) .none kV_is_number dc_is_number pm_is_number an_is_number cd_is_number ct_is_number), sl_is_number⟩)
    (c_is_number : PySem.W.codeIn K cd_is_number "_is_number" = true)
    (k_is_number : PySem.W.keepIn K (.ref f_is_number) = true)
    (a_are_names : PySem.W.nsIn K mainGlobals "_are_names" = some (some (.ref f_are_names)))
    (l_are_names : K.lookup f_are_names = some ⟨oc_are_names, od_are_names, .func (PySem.W.fnOf "_are_names" "_are_names" (defArgs s_are_names) (defBody s_are_names) (defScope s_are_names) .none kV_are_names dc_are_names pm_are_names an_are_names cd_are_names ct_are_names), sl_are_names⟩)
    (c_are_names : PySem.W.codeIn K cd_are_names "_are_names" = true)
    (k_are_names : PySem.W.keepIn K (.ref f_are_names) = true)
    (a_table : PySem.W.nsIn K mainGlobals "_table" = some (some (.ref f_table)))
    (l_table : K.lookup f_table = some ⟨oc_table, od_table, .func (PySem.W.fnOf "_table" "_table" (defArgs s_table) (defBody s_table) (defScope s_table) .none kV_table dc_table pm_table an_table cd_table ct_table), sl_table⟩)
    (c_table : PySem.W.codeIn K cd_table "_table" = true)
    (k_table : PySem.W.keepIn K (.ref f_table) = true)
    (a_book_of : PySem.W.nsIn K mainGlobals "_book_of" = some (some (.ref f_book_of)))
    (l_book_of : K.lookup f_book_of = some ⟨oc_book_of, od_book_of, .func (PySem.W.fnOf "_book_of" "_book_of" (defArgs s_book_of) (defBody s_book_of) (defScope s_book_of) .none kV_book_of dc_book_of pm_book_of an_book_of cd_book_of ct_book_of), sl_book_of⟩)
    (c_book_of : PySem.W.codeIn K cd_book_of "_book_of" = true)
    (k_book_of : PySem.W.keepIn K (.ref f_book_of) = true)
    (a_l_pot : PySem.W.nsIn K mainGlobals "_law_pot" = some (some (.ref f_l_pot)))
    (l_l_pot : K.lookup f_l_pot = some ⟨oc_l_pot, od_l_pot, .func (PySem.W.fnOf "_law_pot" "_law_pot" (defArgs s_l_pot) (defBody s_l_pot) (defScope s_l_pot) .none kV_l_pot dc_l_pot pm_l_pot an_l_pot cd_l_pot ct_l_pot), sl_l_pot⟩)
    (c_l_pot : PySem.W.codeIn K cd_l_pot "_law_pot" = true)
    (k_l_pot : PySem.W.keepIn K (.ref f_l_pot) = true)
    (a_l_take : PySem.W.nsIn K mainGlobals "_law_take" = some (some (.ref f_l_take)))
    (l_l_take : K.lookup f_l_take = some ⟨oc_l_take, od_l_take, .func (PySem.W.fnOf "_law_take" "_law_take" (defArgs s_l_take) (defBody s_l_take) (defScope s_l_take) .none kV_l_take dc_l_take pm_l_take an_l_take cd_l_take ct_l_take), sl_l_take⟩)
    (c_l_take : PySem.W.codeIn K cd_l_take "_law_take" = true)
    (k_l_take : PySem.W.keepIn K (.ref f_l_take) = true)
    (a_l_of : PySem.W.nsIn K mainGlobals "_law_of" = some (some (.ref f_l_of)))
    (l_l_of : K.lookup f_l_of = some ⟨oc_l_of, od_l_of, .func (PySem.W.fnOf "_law_of" "_law_of" (defArgs s_l_of) (defBody s_l_of) (defScope s_l_of) .none kV_l_of dc_l_of pm_l_of an_l_of cd_l_of ct_l_of), sl_l_of⟩)
    (c_l_of : PySem.W.codeIn K cd_l_of "_law_of" = true)
    (k_l_of : PySem.W.keepIn K (.ref f_l_of) = true)
    (a_l_some : PySem.W.nsIn K mainGlobals "_law_some" = some (some (.ref f_l_some)))
    (l_l_some : K.lookup f_l_some = some ⟨oc_l_some, od_l_some, .func (PySem.W.fnOf "_law_some" "_law_some" (defArgs s_l_some) (defBody s_l_some) (defScope s_l_some) .none kV_l_some dc_l_some pm_l_some an_l_some cd_l_some ct_l_some), sl_l_some⟩)
    (c_l_some : PySem.W.codeIn K cd_l_some "_law_some" = true)
    (k_l_some : PySem.W.keepIn K (.ref f_l_some) = true)
    (a_l_cells : PySem.W.nsIn K mainGlobals "_law_cells" = some (some (.ref f_l_cells)))
    (l_l_cells : K.lookup f_l_cells = some ⟨oc_l_cells, od_l_cells, .func (PySem.W.fnOf "_law_cells" "_law_cells" (defArgs s_l_cells) (defBody s_l_cells) (defScope s_l_cells) .none kV_l_cells dc_l_cells pm_l_cells an_l_cells cd_l_cells ct_l_cells), sl_l_cells⟩)
    (c_l_cells : PySem.W.codeIn K cd_l_cells "_law_cells" = true)
    (k_l_cells : PySem.W.keepIn K (.ref f_l_cells) = true)
    (a_l_heard : PySem.W.nsIn K mainGlobals "_law_heard" = some (some (.ref f_l_heard)))
    (l_l_heard : K.lookup f_l_heard = some ⟨oc_l_heard, od_l_heard, .func (PySem.W.fnOf "_law_heard" "_law_heard" (defArgs s_l_heard) (defBody s_l_heard) (defScope s_l_heard) .none kV_l_heard dc_l_heard pm_l_heard an_l_heard cd_l_heard ct_l_heard), sl_l_heard⟩)
    (c_l_heard : PySem.W.codeIn K cd_l_heard "_law_heard" = true)
    (k_l_heard : PySem.W.keepIn K (.ref f_l_heard) = true)
    (a_l_odd : PySem.W.nsIn K mainGlobals "_law_odd" = some (some (.ref f_l_odd)))
    (l_l_odd : K.lookup f_l_odd = some ⟨oc_l_odd, od_l_odd, .func (PySem.W.fnOf "_law_odd" "_law_odd" (defArgs s_l_odd) (defBody s_l_odd) (defScope s_l_odd) .none kV_l_odd dc_l_odd pm_l_odd an_l_odd cd_l_odd ct_l_odd), sl_l_odd⟩)
    (c_l_odd : PySem.W.codeIn K cd_l_odd "_law_odd" = true)
    (k_l_odd : PySem.W.keepIn K (.ref f_l_odd) = true)
    (a_l_bent : PySem.W.nsIn K mainGlobals "_law_bent" = some (some (.ref f_l_bent)))
    (l_l_bent : K.lookup f_l_bent = some ⟨oc_l_bent, od_l_bent, .func (PySem.W.fnOf "_law_bent" "_law_bent" (defArgs s_l_bent) (defBody s_l_bent) (defScope s_l_bent) .none kV_l_bent dc_l_bent pm_l_bent an_l_bent cd_l_bent ct_l_bent), sl_l_bent⟩)
    (c_l_bent : PySem.W.codeIn K cd_l_bent "_law_bent" = true)
    (k_l_bent : PySem.W.keepIn K (.ref f_l_bent) = true)
    (a_l_bent_line : PySem.W.nsIn K mainGlobals "_law_bent_line" = some (some (.ref f_l_bent_line)))
    (l_l_bent_line : K.lookup f_l_bent_line = some ⟨oc_l_bent_line, od_l_bent_line, .func (PySem.W.fnOf "_law_bent_line" "_law_bent_line" (defArgs s_l_bent_line) (defBody s_l_bent_line) (defScope s_l_bent_line) .none kV_l_bent_line dc_l_bent_line pm_l_bent_line an_l_bent_line cd_l_bent_line ct_l_bent_line), sl_l_bent_line⟩)
    (c_l_bent_line : PySem.W.codeIn K cd_l_bent_line "_law_bent_line" = true)
    (k_l_bent_line : PySem.W.keepIn K (.ref f_l_bent_line) = true)
    (a_l_bent_text : PySem.W.nsIn K mainGlobals "_law_bent_text" = some (some (.ref f_l_bent_text)))
    (l_l_bent_text : K.lookup f_l_bent_text = some ⟨oc_l_bent_text, od_l_bent_text, .func (PySem.W.fnOf "_law_bent_text" "_law_bent_text" (defArgs s_l_bent_text) (defBody s_l_bent_text) (defScope s_l_bent_text) .none kV_l_bent_text dc_l_bent_text pm_l_bent_text an_l_bent_text cd_l_bent_text ct_l_bent_text), sl_l_bent_text⟩)
    (c_l_bent_text : PySem.W.codeIn K cd_l_bent_text "_law_bent_text" = true)
    (k_l_bent_text : PySem.W.keepIn K (.ref f_l_bent_text) = true)
    (a_l_book_names : PySem.W.nsIn K mainGlobals "_law_book_names" = some (some (.ref f_l_book_names)))
    (l_l_book_names : K.lookup f_l_book_names = some ⟨oc_l_book_names, od_l_book_names, .func (PySem.W.fnOf "_law_book_names" "_law_book_names" (defArgs s_l_book_names) (defBody s_l_book_names) (defScope s_l_book_names) .none kV_l_book_names dc_l_book_names pm_l_book_names an_l_book_names cd_l_book_names ct_l_book_names), sl_l_book_names⟩)
    (c_l_book_names : PySem.W.codeIn K cd_l_book_names "_law_book_names" = true)
    (k_l_book_names : PySem.W.keepIn K (.ref f_l_book_names) = true)
    (a_l_book_weights : PySem.W.nsIn K mainGlobals "_law_book_weights" = some (some (.ref f_l_book_weights)))
    (l_l_book_weights : K.lookup f_l_book_weights = some ⟨oc_l_book_weights, od_l_book_weights, .func (PySem.W.fnOf "_law_book_weights" "_law_book_weights" (defArgs s_l_book_weights) (defBody s_l_book_weights) (defScope s_l_book_weights) .none kV_l_book_weights dc_l_book_weights pm_l_book_weights an_l_book_weights cd_l_book_weights ct_l_book_weights), sl_l_book_weights⟩)
    (c_l_book_weights : PySem.W.codeIn K cd_l_book_weights "_law_book_weights" = true)
    (k_l_book_weights : PySem.W.keepIn K (.ref f_l_book_weights) = true)
    (a_l_book_table : PySem.W.nsIn K mainGlobals "_law_book_table" = some (some (.ref f_l_book_table)))
    (l_l_book_table : K.lookup f_l_book_table = some ⟨oc_l_book_table, od_l_book_table, .func (PySem.W.fnOf "_law_book_table" "_law_book_table" (defArgs s_l_book_table) (defBody s_l_book_table) (defScope s_l_book_table) .none kV_l_book_table dc_l_book_table pm_l_book_table an_l_book_table cd_l_book_table ct_l_book_table), sl_l_book_table⟩)
    (c_l_book_table : PySem.W.codeIn K cd_l_book_table "_law_book_table" = true)
    (k_l_book_table : PySem.W.keepIn K (.ref f_l_book_table) = true)
    (a_l_book_twinned : PySem.W.nsIn K mainGlobals "_law_book_twinned" = some (some (.ref f_l_book_twinned)))
    (l_l_book_twinned : K.lookup f_l_book_twinned = some ⟨oc_l_book_twinned, od_l_book_twinned, .func (PySem.W.fnOf "_law_book_twinned" "_law_book_twinned" (defArgs s_l_book_twinned) (defBody s_l_book_twinned) (defScope s_l_book_twinned) .none kV_l_book_twinned dc_l_book_twinned pm_l_book_twinned an_l_book_twinned cd_l_book_twinned ct_l_book_twinned), sl_l_book_twinned⟩)
    (c_l_book_twinned : PySem.W.codeIn K cd_l_book_twinned "_law_book_twinned" = true)
    (k_l_book_twinned : PySem.W.keepIn K (.ref f_l_book_twinned) = true)
    (a_l_book_of : PySem.W.nsIn K mainGlobals "_law_book_of" = some (some (.ref f_l_book_of)))
    (l_l_book_of : K.lookup f_l_book_of = some ⟨oc_l_book_of, od_l_book_of, .func (PySem.W.fnOf "_law_book_of" "_law_book_of" (defArgs s_l_book_of) (defBody s_l_book_of) (defScope s_l_book_of) .none kV_l_book_of dc_l_book_of pm_l_book_of an_l_book_of cd_l_book_of ct_l_book_of), sl_l_book_of⟩)
    (c_l_book_of : PySem.W.codeIn K cd_l_book_of "_law_book_of" = true)
    (k_l_book_of : PySem.W.keepIn K (.ref f_l_book_of) = true)
    (a_l_book_drawn : PySem.W.nsIn K mainGlobals "_law_book_drawn" = some (some (.ref f_l_book_drawn)))
    (l_l_book_drawn : K.lookup f_l_book_drawn = some ⟨oc_l_book_drawn, od_l_book_drawn, .func (PySem.W.fnOf "_law_book_drawn" "_law_book_drawn" (defArgs s_l_book_drawn) (defBody s_l_book_drawn) (defScope s_l_book_drawn) .none kV_l_book_drawn dc_l_book_drawn pm_l_book_drawn an_l_book_drawn cd_l_book_drawn ct_l_book_drawn), sl_l_book_drawn⟩)
    (c_l_book_drawn : PySem.W.codeIn K cd_l_book_drawn "_law_book_drawn" = true)
    (k_l_book_drawn : PySem.W.keepIn K (.ref f_l_book_drawn) = true)
    (a_l_book_text : PySem.W.nsIn K mainGlobals "_law_book_text" = some (some (.ref f_l_book_text)))
    (l_l_book_text : K.lookup f_l_book_text = some ⟨oc_l_book_text, od_l_book_text, .func (PySem.W.fnOf "_law_book_text" "_law_book_text" (defArgs s_l_book_text) (defBody s_l_book_text) (defScope s_l_book_text) .none kV_l_book_text dc_l_book_text pm_l_book_text an_l_book_text cd_l_book_text ct_l_book_text), sl_l_book_text⟩)
    (c_l_book_text : PySem.W.codeIn K cd_l_book_text "_law_book_text" = true)
    (k_l_book_text : PySem.W.keepIn K (.ref f_l_book_text) = true)
    (a_l_book_picked : PySem.W.nsIn K mainGlobals "_law_book_picked" = some (some (.ref f_l_book_picked)))
    (l_l_book_picked : K.lookup f_l_book_picked = some ⟨oc_l_book_picked, od_l_book_picked, .func (PySem.W.fnOf "_law_book_picked" "_law_book_picked" (defArgs s_l_book_picked) (defBody s_l_book_picked) (defScope s_l_book_picked) .none kV_l_book_picked dc_l_book_picked pm_l_book_picked an_l_book_picked cd_l_book_picked ct_l_book_picked), sl_l_book_picked⟩)
    (c_l_book_picked : PySem.W.codeIn K cd_l_book_picked "_law_book_picked" = true)
    (k_l_book_picked : PySem.W.keepIn K (.ref f_l_book_picked) = true)
    (a_l_is_name : PySem.W.nsIn K mainGlobals "_law_is_name" = some (some (.ref f_l_is_name)))
    (l_l_is_name : K.lookup f_l_is_name = some ⟨oc_l_is_name, od_l_is_name, .func (PySem.W.fnOf "_law_is_name" "_law_is_name" (defArgs s_l_is_name) (defBody s_l_is_name) (defScope s_l_is_name) .none kV_l_is_name dc_l_is_name pm_l_is_name an_l_is_name cd_l_is_name ct_l_is_name), sl_l_is_name⟩)
    (c_l_is_name : PySem.W.codeIn K cd_l_is_name "_law_is_name" = true)
    (k_l_is_name : PySem.W.keepIn K (.ref f_l_is_name) = true)
    (a_l_are_names : PySem.W.nsIn K mainGlobals "_law_are_names" = some (some (.ref f_l_are_names)))
    (l_l_are_names : K.lookup f_l_are_names = some ⟨oc_l_are_names, od_l_are_names, .func (PySem.W.fnOf "_law_are_names" "_law_are_names" (defArgs s_l_are_names) (defBody s_l_are_names) (defScope s_l_are_names) .none kV_l_are_names dc_l_are_names pm_l_are_names an_l_are_names cd_l_are_names ct_l_are_names), sl_l_are_names⟩)
    (c_l_are_names : PySem.W.codeIn K cd_l_are_names "_law_are_names" = true)
    (k_l_are_names : PySem.W.keepIn K (.ref f_l_are_names) = true)
    (a_l_is_renamed_right : PySem.W.nsIn K mainGlobals "_law_is_renamed_right" = some (some (.ref f_l_is_renamed_right)))
    (l_l_is_renamed_right : K.lookup f_l_is_renamed_right = some ⟨oc_l_is_renamed_right, od_l_is_renamed_right, .func (PySem.W.fnOf "_law_is_renamed_right" "_law_is_renamed_right" (defArgs s_l_is_renamed_right) (defBody s_l_is_renamed_right) (defScope s_l_is_renamed_right) .none kV_l_is_renamed_right dc_l_is_renamed_right pm_l_is_renamed_right an_l_is_renamed_right (.ref cJ1) ct_l_is_renamed_right), sl_l_is_renamed_right⟩)
    (c_l_is_renamed_right : PySem.W.codeIn K (.ref cJ1) "_law_is_renamed_right" = true)
    (k_l_is_renamed_right : PySem.W.keepIn K (.ref f_l_is_renamed_right) = true)
    (a_l_some_names : PySem.W.nsIn K mainGlobals "_law_some_names" = some (some (.ref f_l_some_names)))
    (l_l_some_names : K.lookup f_l_some_names = some ⟨oc_l_some_names, od_l_some_names, .func (PySem.W.fnOf "_law_some_names" "_law_some_names" (defArgs s_l_some_names) (defBody s_l_some_names) (defScope s_l_some_names) .none kV_l_some_names dc_l_some_names pm_l_some_names an_l_some_names cd_l_some_names ct_l_some_names), sl_l_some_names⟩)
    (c_l_some_names : PySem.W.codeIn K cd_l_some_names "_law_some_names" = true)
    (k_l_some_names : PySem.W.keepIn K (.ref f_l_some_names) = true)
    (a_l_is_refusal : PySem.W.nsIn K mainGlobals "_law_is_refusal" = some (some (.ref f_l_is_refusal)))
    (l_l_is_refusal : K.lookup f_l_is_refusal = some ⟨oc_l_is_refusal, od_l_is_refusal, .func (PySem.W.fnOf "_law_is_refusal" "_law_is_refusal" (defArgs s_l_is_refusal) (defBody s_l_is_refusal) (defScope s_l_is_refusal) .none kV_l_is_refusal dc_l_is_refusal pm_l_is_refusal an_l_is_refusal cd_l_is_refusal ct_l_is_refusal), sl_l_is_refusal⟩)
    (c_l_is_refusal : PySem.W.codeIn K cd_l_is_refusal "_law_is_refusal" = true)
    (k_l_is_refusal : PySem.W.keepIn K (.ref f_l_is_refusal) = true)
    (a_l_is_asked_right : PySem.W.nsIn K mainGlobals "_law_is_asked_right" = some (some (.ref f_l_is_asked_right)))
    (l_l_is_asked_right : K.lookup f_l_is_asked_right = some ⟨oc_l_is_asked_right, od_l_is_asked_right, .func (PySem.W.fnOf "_law_is_asked_right" "_law_is_asked_right" (defArgs s_l_is_asked_right) (defBody s_l_is_asked_right) (defScope s_l_is_asked_right) .none kV_l_is_asked_right dc_l_is_asked_right pm_l_is_asked_right an_l_is_asked_right (.ref cJ2) ct_l_is_asked_right), sl_l_is_asked_right⟩)
    (c_l_is_asked_right : PySem.W.codeIn K (.ref cJ2) "_law_is_asked_right" = true)
    (k_l_is_asked_right : PySem.W.keepIn K (.ref f_l_is_asked_right) = true)
    (a_l_right : PySem.W.nsIn K mainGlobals "_law_right" = some (some (.ref f_l_right)))
    (l_l_right : K.lookup f_l_right = some ⟨oc_l_right, od_l_right, .func (PySem.W.fnOf "_law_right" "_law_right" (defArgs s_l_right) (defBody s_l_right) (defScope s_l_right) .none kV_l_right dc_l_right pm_l_right an_l_right cd_l_right ct_l_right), sl_l_right⟩)
    (c_l_right : PySem.W.codeIn K cd_l_right "_law_right" = true)
    (k_l_right : PySem.W.keepIn K (.ref f_l_right) = true)
    (a_law : PySem.W.nsIn K mainGlobals "law" = some (some (.ref f_law)))
    (l_law : K.lookup f_law = some ⟨oc_law, od_law, .func (PySem.W.fnOf "law" "law" (defArgs s_law) (defBody s_law) (defScope s_law) .none kV_law dc_law pm_law an_law cd_law ct_law), sl_law⟩)
    (c_law : PySem.W.codeIn K cd_law "law" = true)
    (k_law : PySem.W.keepIn K (.ref f_law) = true)
    (n_ValueError : PySem.W.nsIn K mainGlobals "ValueError" = some none)
    (n_abs : PySem.W.nsIn K mainGlobals "abs" = some none)
    (n_all : PySem.W.nsIn K mainGlobals "all" = some none)
    (n_bool : PySem.W.nsIn K mainGlobals "bool" = some none)
    (n_dict : PySem.W.nsIn K mainGlobals "dict" = some none)
    (n_enumerate : PySem.W.nsIn K mainGlobals "enumerate" = some none)
    (n_int : PySem.W.nsIn K mainGlobals "int" = some none)
    (n_isinstance : PySem.W.nsIn K mainGlobals "isinstance" = some none)
    (n_len : PySem.W.nsIn K mainGlobals "len" = some none)
    (n_list : PySem.W.nsIn K mainGlobals "list" = some none)
    (n_max : PySem.W.nsIn K mainGlobals "max" = some none)
    (n_min : PySem.W.nsIn K mainGlobals "min" = some none)
    (n_range : PySem.W.nsIn K mainGlobals "range" = some none)
    (n_repr : PySem.W.nsIn K mainGlobals "repr" = some none)
    (n_set : PySem.W.nsIn K mainGlobals "set" = some none)
    (n_str : PySem.W.nsIn K mainGlobals "str" = some none)
    (n_sum : PySem.W.nsIn K mainGlobals "sum" = some none)
    (n_tuple : PySem.W.nsIn K mainGlobals "tuple" = some none)
    (n_zip : PySem.W.nsIn K mainGlobals "zip" = some none)
    (m_LETTERS : PySem.W.nsIn K mainGlobals "LETTERS" = some (some (.str "abcdefghijklmnopqrstuvwxyz" t_LETTERS)))
    (m_FIGURES : PySem.W.nsIn K mainGlobals "FIGURES" = some (some (.str "0123456789" t_FIGURES)))
    (m_MOST_MARKS : PySem.W.nsIn K mainGlobals "MOST_MARKS" = some (some (.int 4 t_MOST_MARKS)))
    (m_MOST_KINDS : PySem.W.nsIn K mainGlobals "MOST_KINDS" = some (some (.int 3 t_MOST_KINDS)))
    (m_PRIMES : PySem.W.nsIn K mainGlobals "PRIMES" = some (some (.ref aP)))
    (l_PRIMES : K.lookup aP = some ⟨.type "tuple", dP, .seq uP nP, slP⟩)
    (v_PRIMES : Vals ([2, 3, 5, 7, 11, 13, 17, 19, 23, 29, 31, 37, 41, 43, 47, 53, 59, 61, 67, 71, 73, 79, 83, 89, 97].map V.int) uP.toList)
    (z_PRIMES : uP.size ≤ 1000)
    (xL_BadBook : K.lookup c_BadBook = some (excClassObj nmBadBook qnBadBook c_BadBook NnBadBook bsBadBook [.ref c_GateError, .type "ValueError", .type "Exception", .type "BaseException", .type "object"] true snBadBook subBadBook abBadBook colBadBook ddBadBook x0BadBook x1BadBook x2BadBook x3BadBook x5BadBook "ValueError.__new__"))
    (e_saBadBook : PySem.W.findIn K (.ref c_BadBook) "__setattr__" = some (some (.builtin "object.__setattr__")))
    (e_exBadBook : PySem.W.subIn K (.ref c_BadBook) (.type "BaseException") = some true)
    (e_tyBadBook : PySem.W.typeIn K (.ref c_BadBook) = some (.type "type"))
    (e_kpBadBook : PySem.W.keepIn K (.ref c_BadBook) = true)
    (e_inBadBook : PySem.W.findIn K (.ref c_BadBook) "__init__" = some (some (.ref f_GateError_init)))
    (e_noBadBook : PySem.W.findIn K (.ref c_BadBook) "value" = some none)
    (xL_NoMark : K.lookup c_NoMark = some (excClassObj nmNoMark qnNoMark c_NoMark NnNoMark bsNoMark [.ref c_GateError, .type "ValueError", .type "Exception", .type "BaseException", .type "object"] true snNoMark subNoMark abNoMark colNoMark ddNoMark x0NoMark x1NoMark x2NoMark x3NoMark x5NoMark "ValueError.__new__"))
    (e_saNoMark : PySem.W.findIn K (.ref c_NoMark) "__setattr__" = some (some (.builtin "object.__setattr__")))
    (e_exNoMark : PySem.W.subIn K (.ref c_NoMark) (.type "BaseException") = some true)
    (e_tyNoMark : PySem.W.typeIn K (.ref c_NoMark) = some (.type "type"))
    (e_kpNoMark : PySem.W.keepIn K (.ref c_NoMark) = true)
    (e_inNoMark : PySem.W.findIn K (.ref c_NoMark) "__init__" = some (some (.ref f_GateError_init)))
    (e_noNoMark : PySem.W.findIn K (.ref c_NoMark) "value" = some none)
    (xL_NoKind : K.lookup c_NoKind = some (excClassObj nmNoKind qnNoKind c_NoKind NnNoKind bsNoKind [.ref c_GateError, .type "ValueError", .type "Exception", .type "BaseException", .type "object"] true snNoKind subNoKind abNoKind colNoKind ddNoKind x0NoKind x1NoKind x2NoKind x3NoKind x5NoKind "ValueError.__new__"))
    (e_saNoKind : PySem.W.findIn K (.ref c_NoKind) "__setattr__" = some (some (.builtin "object.__setattr__")))
    (e_exNoKind : PySem.W.subIn K (.ref c_NoKind) (.type "BaseException") = some true)
    (e_tyNoKind : PySem.W.typeIn K (.ref c_NoKind) = some (.type "type"))
    (e_kpNoKind : PySem.W.keepIn K (.ref c_NoKind) = true)
    (e_inNoKind : PySem.W.findIn K (.ref c_NoKind) "__init__" = some (some (.ref f_GateError_init)))
    (e_noNoKind : PySem.W.findIn K (.ref c_NoKind) "value" = some none)
    (xL_BadNames : K.lookup c_BadNames = some (excClassObj nmBadNames qnBadNames c_BadNames NnBadNames bsBadNames [.ref c_GateError, .type "ValueError", .type "Exception", .type "BaseException", .type "object"] true snBadNames subBadNames abBadNames colBadNames ddBadNames x0BadNames x1BadNames x2BadNames x3BadNames x5BadNames "ValueError.__new__"))
    (e_saBadNames : PySem.W.findIn K (.ref c_BadNames) "__setattr__" = some (some (.builtin "object.__setattr__")))
    (e_exBadNames : PySem.W.subIn K (.ref c_BadNames) (.type "BaseException") = some true)
    (e_tyBadNames : PySem.W.typeIn K (.ref c_BadNames) = some (.type "type"))
    (e_kpBadNames : PySem.W.keepIn K (.ref c_BadNames) = true)
    (e_inBadNames : PySem.W.findIn K (.ref c_BadNames) "__init__" = some (some (.ref f_GateError_init)))
    (e_noBadNames : PySem.W.findIn K (.ref c_BadNames) "value" = some none)
    (e_tI : PySem.W.typeIn K (.ref f_GateError_init) = some (.type "function"))
    (e_ga : PySem.W.findIn K (.ref c_BadBook) "__getattribute__" = some (some (.builtin "BaseException.__getattribute__")))
    (e_gg : PySem.W.findIn K (.ref c_BadBook) "__getattr__" = some none)
    (e_hd : PySem.W.hasDictIn K c_BadBook = true)
    (e_ha : PySem.W.findIn K (.ref c_BadBook) "__class__" = some (some (.builtin "object.__class__")))
    (e_hn : PySem.W.specialIn K (.builtin "object.__class__") "__get__" = some (some (.builtin "getset_descriptor.__get__")))
    (e_ht : PySem.W.takesIn K (.builtin "object.__class__") = some true)
    (e_hm : PySem.W.mroIn K c_BadBook (.type "object") = some true)
    (g_ex : PySem.W.subIn K (.ref c_GateError) (.type "BaseException") = some true)
    (g_hd : PySem.W.hasDictIn K c_GateError = true)
    (g_ty : PySem.W.typeIn K (.ref c_GateError) = some (.type "type"))
    (o_gaNoMark : PySem.W.findIn K (.ref c_NoMark) "__getattribute__" = some (some (.builtin "BaseException.__getattribute__")))
    (o_ggNoMark : PySem.W.findIn K (.ref c_NoMark) "__getattr__" = some none)
    (o_hdNoMark : PySem.W.hasDictIn K c_NoMark = true)
    (o_haNoMark : PySem.W.findIn K (.ref c_NoMark) "__class__" = some (some (.builtin "object.__class__")))
    (o_hmNoMark : PySem.W.mroIn K c_NoMark (.type "object") = some true)
    (o_sbNoMark : PySem.W.subIn K (.ref c_NoMark) (.ref c_GateError) = some true)
    (o_icNoMark : PySem.W.isClsIn K c_NoMark = true)
    (o_gaNoKind : PySem.W.findIn K (.ref c_NoKind) "__getattribute__" = some (some (.builtin "BaseException.__getattribute__")))
    (o_ggNoKind : PySem.W.findIn K (.ref c_NoKind) "__getattr__" = some none)
    (o_hdNoKind : PySem.W.hasDictIn K c_NoKind = true)
    (o_haNoKind : PySem.W.findIn K (.ref c_NoKind) "__class__" = some (some (.builtin "object.__class__")))
    (o_hmNoKind : PySem.W.mroIn K c_NoKind (.type "object") = some true)
    (o_sbNoKind : PySem.W.subIn K (.ref c_NoKind) (.ref c_GateError) = some true)
    (o_icNoKind : PySem.W.isClsIn K c_NoKind = true)
    (o_gaBadNames : PySem.W.findIn K (.ref c_BadNames) "__getattribute__" = some (some (.builtin "BaseException.__getattribute__")))
    (o_ggBadNames : PySem.W.findIn K (.ref c_BadNames) "__getattr__" = some none)
    (o_hdBadNames : PySem.W.hasDictIn K c_BadNames = true)
    (o_haBadNames : PySem.W.findIn K (.ref c_BadNames) "__class__" = some (some (.builtin "object.__class__")))
    (o_hmBadNames : PySem.W.mroIn K c_BadNames (.type "object") = some true)
    (o_sbBadNames : PySem.W.subIn K (.ref c_BadNames) (.ref c_GateError) = some true)
    (o_icBadNames : PySem.W.isClsIn K c_BadNames = true)
    (s_MK : PySem.W.subIn K (.ref c_NoMark) (.ref c_NoKind) = some false)
    (s_KM : PySem.W.subIn K (.ref c_NoKind) (.ref c_NoMark) = some false)
    (n_MK : c_NoMark ≠ c_NoKind)
    (b_ic : PySem.W.isClsIn K c_Book = true)
    (b_ty : PySem.W.typeIn K (.ref c_Book) = some (.type "type"))
    (b_ss : PySem.W.subIn K (.type "str") (.ref c_Book) = some false)
    (g_sb : PySem.W.subIn K (.ref c_BadBook) (.ref c_GateError) = some true)
    (b_pg : PySem.W.plainGet K c_Book Str.empty = true)
    (b_hd : PySem.W.hasDictIn K c_Book = true)
    (b_po : PySem.W.plainOver K c_Book = true)
    (b_sa : PySem.W.findIn K (.ref c_Book) "__setattr__" = some (some (.builtin "object.__setattr__")))
    (b_mk : PySem.W.makesIn K c_Book = true)
    (b_kp : PySem.W.keepIn K (.ref c_Book) = true)
    (b_n1 : PySem.W.findIn K (.ref c_Book) "text" = some none)
    (b_n2 : PySem.W.findIn K (.ref c_Book) "by" = some none)
    (b_n3 : PySem.W.findIn K (.ref c_Book) "marks" = some none)
    (b_n4 : PySem.W.findIn K (.ref c_Book) "kinds" = some none)
    (b_n5 : PySem.W.findIn K (.ref c_Book) "_weight_by_mark" = some none)
    (b_n6 : PySem.W.findIn K (.ref c_Book) "_worths_by_kind" = some none)
    (b_ca : PySem.W.findIn K (.ref c_Book) "__class__" = some (some (.builtin "object.__class__")))
    (b_ob : PySem.W.mroIn K c_Book (.type "object") = some true)
    (fn_Book_init : PySem.W.isFn K (.ref f_Book_init) = true)
    (fn_Book_len : PySem.W.isFn K (.ref f_Book_len) = true)
    (fn_Book_contains : PySem.W.isFn K (.ref f_Book_contains) = true)
    (fn_Book_eq : PySem.W.isFn K (.ref f_Book_eq) = true)
    (fn_Book_weight : PySem.W.isFn K (.ref f_Book_weight) = true)
    (fn_Book_worth : PySem.W.isFn K (.ref f_Book_worth) = true)
    (j_hd1 : PySem.W.codeHdIn K cJ1 P1 = true)
    (j_no1 : K.lookup P1 = none)
    (j_hd2 : PySem.W.codeHdIn K cJ2 P2 = true)
    (j_no2 : K.lookup P2 = none)
    (j_ne : P1 ≠ P2)
    : ∃ (fd : FuncData) (sp : Sp) (Ts : List (Addr × Addr)), (∀ t ∈ Ts, h.get? t.2 = some { cls := .none, data := .fields #[] }) ∧ (∀ t ∈ Ts, K.lookup t.2 = none) ∧ (∀ t ∈ Ts, PySem.W.CodeHd h t.1 t.2) ∧ (∀ (s : Shared) (u : Value), BindsTo s fd ⟨[u], []⟩ [("script", u)]) ∧
      (∀ (H : Hp) (a : Addr) (ns : List Int), ns.length ≤ 63 → (∀ z ∈ ns, Builtin.Int.intBits z ≤ 1048576) → (∀ t ∈ Ts, H t.2 = some (.tbl #[])) → SqL K H a (ns.map V.int) → sp [.ref a] H (fun v _ => v = .bl true) E0) ∧
      ∀ base : Heap, K.In base → base.Ns mainGlobals mg → (∀ t ∈ Ts, TabB base mg t.1 t.2) → OGX.FnG l.prog w K mg base 14 fa fd ["script"] sp := by
  have e := hfa.symm.trans (PySem.W.mg_of X G a_law)
  cases e
  have F_is_integer := fun_mk (st := s_is_integer) l_is_integer c_is_integer k_is_integer
  have b_is_integer := F_is_integer.binds (ps := ["value"]) fun _ _ _ _ _ _ us hl => match us, hl with | [_], _ => rfl
  have F_is_by := fun_mk (st := s_is_by) l_is_by c_is_by k_is_by
  have b_is_by := F_is_by.binds (ps := ["value"]) fun _ _ _ _ _ _ us hl => match us, hl with | [_], _ => rfl
  have F_GateError_init := fun_mk (st := s_GateError_init) l_GateError_init c_GateError_init k_GateError_init
  have b_GateError_init := F_GateError_init.binds (ps := ["self", "value"]) fun _ _ _ _ _ _ us hl => match us, hl with | [_, _], _ => rfl
  have F_integer_of := fun_mk (st := s_integer_of) l_integer_of c_integer_of k_integer_of
  have b_integer_of := F_integer_of.binds (ps := ["word", "most"]) fun _ _ _ _ _ _ us hl => match us, hl with | [_, _], _ => rfl
  have F_is_letters := fun_mk (st := s_is_letters) l_is_letters c_is_letters k_is_letters
  have b_is_letters := F_is_letters.binds (ps := ["word", "most"]) fun _ _ _ _ _ _ us hl => match us, hl with | [_, _], _ => rfl
  have F_is_of := fun_mk (st := s_is_of) l_is_of c_is_of k_is_of
  have b_is_of := F_is_of.binds (ps := ["word", "signs"]) fun _ _ _ _ _ _ us hl => match us, hl with | [_, _], _ => rfl
  have F_Book_init := fun_mk (st := s_Book_init) l_Book_init c_Book_init k_Book_init
  have b_Book_init := F_Book_init.binds (ps := ["self", "text"]) fun _ _ _ _ _ _ us hl => match us, hl with | [_, _], _ => rfl
  have F_Book_len := fun_mk (st := s_Book_len) l_Book_len c_Book_len k_Book_len
  have b_Book_len := F_Book_len.binds (ps := ["self"]) fun _ _ _ _ _ _ us hl => match us, hl with | [_], _ => rfl
  have F_Book_contains := fun_mk (st := s_Book_contains) l_Book_contains c_Book_contains k_Book_contains
  have b_Book_contains := F_Book_contains.binds (ps := ["self", "value"]) fun _ _ _ _ _ _ us hl => match us, hl with | [_, _], _ => rfl
  have F_Book_eq := fun_mk (st := s_Book_eq) l_Book_eq c_Book_eq k_Book_eq
  have b_Book_eq := F_Book_eq.binds (ps := ["self", "other"]) fun _ _ _ _ _ _ us hl => match us, hl with | [_, _], _ => rfl
  have F_Book_weight := fun_mk (st := s_Book_weight) l_Book_weight c_Book_weight k_Book_weight
  have b_Book_weight := F_Book_weight.binds (ps := ["self", "mark"]) fun _ _ _ _ _ _ us hl => match us, hl with | [_, _], _ => rfl
  have F_Book_worth := fun_mk (st := s_Book_worth) l_Book_worth c_Book_worth k_Book_worth
  have b_Book_worth := F_Book_worth.binds (ps := ["self", "kind", "one", "other"]) fun _ _ _ _ _ _ us hl => match us, hl with | [_, _, _, _], _ => rfl
  have F_renamed := fun_mk (st := s_renamed) l_renamed c_renamed k_renamed
  have b_renamed := F_renamed.binds (ps := ["book", "names"]) fun _ _ _ _ _ _ us hl => match us, hl with | [_, _], _ => rfl
  have F_read_book := fun_mk (st := s_read_book) l_read_book c_read_book k_read_book
  have b_read_book := F_read_book.binds (ps := ["text"]) fun _ _ _ _ _ _ us hl => match us, hl with | [_], _ => rfl
  have F_read_by := fun_mk (st := s_read_by) l_read_by c_read_by k_read_by
  have b_read_by := F_read_by.binds (ps := ["words"]) fun _ _ _ _ _ _ us hl => match us, hl with | [_], _ => rfl
  have F_is_mark := fun_mk (st := s_is_mark) l_is_mark c_is_mark k_is_mark
  have b_is_mark := F_is_mark.binds (ps := ["words", "by", "weights"]) fun _ _ _ _ _ _ us hl => match us, hl with | [_, _, _], _ => rfl
  have F_is_kind := fun_mk (st := s_is_kind) l_is_kind c_is_kind k_is_kind
  have b_is_kind := F_is_kind.binds (ps := ["words", "by", "worths", "marks"]) fun _ _ _ _ _ _ us hl => match us, hl with | [_, _, _, _], _ => rfl
  have F_is_number := fun_mk (st := s_is_number) l_is_number c_is_number k_is_number
  have b_is_number := F_is_number.binds (ps := ["word", "by"]) fun _ _ _ _ _ _ us hl => match us, hl with | [_, _], _ => rfl
  have F_are_names := fun_mk (st := s_are_names) l_are_names c_are_names k_are_names
  have b_are_names := F_are_names.binds (ps := ["value", "many"]) fun _ _ _ _ _ _ us hl => match us, hl with | [_, _], _ => rfl
  have F_table := fun_mk (st := s_table) l_table c_table k_table
  have b_table := F_table.binds (ps := ["book", "marks"]) fun _ _ _ _ _ _ us hl => match us, hl with | [_, _], _ => rfl
  have F_book_of := fun_mk (st := s_book_of) l_book_of c_book_of k_book_of
  have b_book_of := F_book_of.binds (ps := ["by", "names", "weights", "worths"]) fun _ _ _ _ _ _ us hl => match us, hl with | [_, _, _, _], _ => rfl
  have F_l_pot := fun_mk (st := s_l_pot) l_l_pot c_l_pot k_l_pot
  have b_l_pot := F_l_pot.binds (ps := ["script", "place"]) fun _ _ _ _ _ _ us hl => match us, hl with | [_, _], _ => rfl
  have F_l_take := fun_mk (st := s_l_take) l_l_take c_l_take k_l_take
  have b_l_take := F_l_take.binds (ps := ["pot", "upto"]) fun _ _ _ _ _ _ us hl => match us, hl with | [_, _], _ => rfl
  have F_l_of := fun_mk (st := s_l_of) l_l_of c_l_of k_l_of
  have b_l_of := F_l_of.binds (ps := ["pot", "some"]) fun _ _ _ _ _ _ us hl => match us, hl with | [_, _], _ => rfl
  have F_l_some := fun_mk (st := s_l_some) l_l_some c_l_some k_l_some
  have b_l_some := F_l_some.binds (ps := ["pot", "pool", "many"]) fun _ _ _ _ _ _ us hl => match us, hl with | [_, _, _], _ => rfl
  have F_l_cells := fun_mk (st := s_l_cells) l_l_cells c_l_cells k_l_cells
  have b_l_cells := F_l_cells.binds (ps := ["script", "most"]) fun _ _ _ _ _ _ us hl => match us, hl with | [_, _], _ => rfl
  have F_l_heard := fun_mk (st := s_l_heard) l_l_heard c_l_heard k_l_heard
  have b_l_heard := F_l_heard.binds (ps := ["call"]) fun _ _ _ _ _ _ us hl => match us, hl with | [_], _ => rfl
  have F_l_odd := fun_mk (st := s_l_odd) l_l_odd c_l_odd k_l_odd
  have b_l_odd := F_l_odd.binds (ps := ["pot"]) fun _ _ _ _ _ _ us hl => match us, hl with | [_], _ => rfl
  have F_l_bent := fun_mk (st := s_l_bent) l_l_bent c_l_bent k_l_bent
  have b_l_bent := F_l_bent.binds (ps := ["pot", "value"]) fun _ _ _ _ _ _ us hl => match us, hl with | [_, _], _ => rfl
  have F_l_bent_line := fun_mk (st := s_l_bent_line) l_l_bent_line c_l_bent_line k_l_bent_line
  have b_l_bent_line := F_l_bent_line.binds (ps := ["pot", "line"]) fun _ _ _ _ _ _ us hl => match us, hl with | [_, _], _ => rfl
  have F_l_bent_text := fun_mk (st := s_l_bent_text) l_l_bent_text c_l_bent_text k_l_bent_text
  have b_l_bent_text := F_l_bent_text.binds (ps := ["pot", "text"]) fun _ _ _ _ _ _ us hl => match us, hl with | [_, _], _ => rfl
  have F_l_book_names := fun_mk (st := s_l_book_names) l_l_book_names c_l_book_names k_l_book_names
  have b_l_book_names := F_l_book_names.binds (ps := ["pot", "many"]) fun _ _ _ _ _ _ us hl => match us, hl with | [_, _], _ => rfl
  have F_l_book_weights := fun_mk (st := s_l_book_weights) l_l_book_weights c_l_book_weights k_l_book_weights
  have b_l_book_weights := F_l_book_weights.binds (ps := ["pot", "by", "many", "is_above"]) fun _ _ _ _ _ _ us hl => match us, hl with | [_, _, _, _], _ => rfl
  have F_l_book_table := fun_mk (st := s_l_book_table) l_l_book_table c_l_book_table k_l_book_table
  have b_l_book_table := F_l_book_table.binds (ps := ["pot", "by", "many"]) fun _ _ _ _ _ _ us hl => match us, hl with | [_, _, _], _ => rfl
  have F_l_book_twinned := fun_mk (st := s_l_book_twinned) l_l_book_twinned c_l_book_twinned k_l_book_twinned
  have b_l_book_twinned := F_l_book_twinned.binds (ps := ["own", "one", "other"]) fun _ _ _ _ _ _ us hl => match us, hl with | [_, _, _], _ => rfl
  have F_l_book_of := fun_mk (st := s_l_book_of) l_l_book_of c_l_book_of k_l_book_of
  have b_l_book_of := F_l_book_of.binds (ps := ["pot", "by", "many", "kinds", "is_above"]) fun _ _ _ _ _ _ us hl => match us, hl with | [_, _, _, _, _], _ => rfl
  have F_l_book_drawn := fun_mk (st := s_l_book_drawn) l_l_book_drawn c_l_book_drawn k_l_book_drawn
  have b_l_book_drawn := F_l_book_drawn.binds (ps := ["pot", "bys", "manys", "kinds", "is_above"]) fun _ _ _ _ _ _ us hl => match us, hl with | [_, _, _, _, _], _ => rfl
  have F_l_book_text := fun_mk (st := s_l_book_text) l_l_book_text c_l_book_text k_l_book_text
  have b_l_book_text := F_l_book_text.binds (ps := ["own"]) fun _ _ _ _ _ _ us hl => match us, hl with | [_], _ => rfl
  have F_l_book_picked := fun_mk (st := s_l_book_picked) l_l_book_picked c_l_book_picked k_l_book_picked
  have b_l_book_picked := F_l_book_picked.binds (ps := ["own", "places", "names", "weights"]) fun _ _ _ _ _ _ us hl => match us, hl with | [_, _, _, _], _ => rfl
  have F_l_is_name := fun_mk (st := s_l_is_name) l_l_is_name c_l_is_name k_l_is_name
  have b_l_is_name := F_l_is_name.binds (ps := ["value"]) fun _ _ _ _ _ _ us hl => match us, hl with | [_], _ => rfl
  have F_l_are_names := fun_mk (st := s_l_are_names) l_l_are_names c_l_are_names k_l_are_names
  have b_l_are_names := F_l_are_names.binds (ps := ["value", "many"]) fun _ _ _ _ _ _ us hl => match us, hl with | [_, _], _ => rfl
  have F_l_is_renamed_right := fun_mk (st := s_l_is_renamed_right) l_l_is_renamed_right c_l_is_renamed_right k_l_is_renamed_right
  have b_l_is_renamed_right := F_l_is_renamed_right.binds (ps := ["own", "book", "names"]) fun _ _ _ _ _ _ us hl => match us, hl with | [_, _, _], _ => rfl
  have F_l_some_names := fun_mk (st := s_l_some_names) l_l_some_names c_l_some_names k_l_some_names
  have b_l_some_names := F_l_some_names.binds (ps := ["pot", "own"]) fun _ _ _ _ _ _ us hl => match us, hl with | [_, _], _ => rfl
  have F_l_is_refusal := fun_mk (st := s_l_is_refusal) l_l_is_refusal c_l_is_refusal k_l_is_refusal
  have b_l_is_refusal := F_l_is_refusal.binds (ps := ["call", "dues"]) fun _ _ _ _ _ _ us hl => match us, hl with | [_, _], _ => rfl
  have F_l_is_asked_right := fun_mk (st := s_l_is_asked_right) l_l_is_asked_right c_l_is_asked_right k_l_is_asked_right
  have b_l_is_asked_right := F_l_is_asked_right.binds (ps := ["pot", "own", "book"]) fun _ _ _ _ _ _ us hl => match us, hl with | [_, _, _], _ => rfl
  have F_l_right := fun_mk (st := s_l_right) l_l_right c_l_right k_l_right
  have b_l_right := F_l_right.binds (ps := ["pot"]) fun _ _ _ _ _ _ us hl => match us, hl with | [_], _ => rfl
  have F_law := fun_mk (st := s_law) l_law c_law k_law
  have b_law := F_law.binds (ps := ["script"]) fun _ _ _ _ _ _ us hl => match us, hl with | [_], _ => rfl
  let T : Txt K mg := {
    f_is_integer := f_is_integer, fd_is_integer := _, F_is_integer := F_is_integer, b_is_integer := b_is_integer
    g_is_integer := PySem.W.mg_of X G a_is_integer
    f_is_by := f_is_by, fd_is_by := _, F_is_by := F_is_by, b_is_by := b_is_by
    g_is_by := PySem.W.mg_of X G a_is_by
    f_GateError_init := f_GateError_init, fd_GateError_init := _, F_GateError_init := F_GateError_init, b_GateError_init := b_GateError_init
    f_integer_of := f_integer_of, fd_integer_of := _, F_integer_of := F_integer_of, b_integer_of := b_integer_of
    g_integer_of := PySem.W.mg_of X G a_integer_of
    f_is_letters := f_is_letters, fd_is_letters := _, F_is_letters := F_is_letters, b_is_letters := b_is_letters
    g_is_letters := PySem.W.mg_of X G a_is_letters
    f_is_of := f_is_of, fd_is_of := _, F_is_of := F_is_of, b_is_of := b_is_of
    g_is_of := PySem.W.mg_of X G a_is_of
    f_Book_init := f_Book_init, fd_Book_init := _, F_Book_init := F_Book_init, b_Book_init := b_Book_init
    f_Book_len := f_Book_len, fd_Book_len := _, F_Book_len := F_Book_len, b_Book_len := b_Book_len
    f_Book_contains := f_Book_contains, fd_Book_contains := _, F_Book_contains := F_Book_contains, b_Book_contains := b_Book_contains
    f_Book_eq := f_Book_eq, fd_Book_eq := _, F_Book_eq := F_Book_eq, b_Book_eq := b_Book_eq
    f_Book_weight := f_Book_weight, fd_Book_weight := _, F_Book_weight := F_Book_weight, b_Book_weight := b_Book_weight
    f_Book_worth := f_Book_worth, fd_Book_worth := _, F_Book_worth := F_Book_worth, b_Book_worth := b_Book_worth
    f_renamed := f_renamed, fd_renamed := _, F_renamed := F_renamed, b_renamed := b_renamed
    g_renamed := PySem.W.mg_of X G a_renamed
    f_read_book := f_read_book, fd_read_book := _, F_read_book := F_read_book, b_read_book := b_read_book
    g_read_book := PySem.W.mg_of X G a_read_book
    f_read_by := f_read_by, fd_read_by := _, F_read_by := F_read_by, b_read_by := b_read_by
    g_read_by := PySem.W.mg_of X G a_read_by
    f_is_mark := f_is_mark, fd_is_mark := _, F_is_mark := F_is_mark, b_is_mark := b_is_mark
    g_is_mark := PySem.W.mg_of X G a_is_mark
    f_is_kind := f_is_kind, fd_is_kind := _, F_is_kind := F_is_kind, b_is_kind := b_is_kind
    g_is_kind := PySem.W.mg_of X G a_is_kind
    f_is_number := f_is_number, fd_is_number := _, F_is_number := F_is_number, b_is_number := b_is_number
    g_is_number := PySem.W.mg_of X G a_is_number
    f_are_names := f_are_names, fd_are_names := _, F_are_names := F_are_names, b_are_names := b_are_names
    g_are_names := PySem.W.mg_of X G a_are_names
    f_table := f_table, fd_table := _, F_table := F_table, b_table := b_table
    g_table := PySem.W.mg_of X G a_table
    f_book_of := f_book_of, fd_book_of := _, F_book_of := F_book_of, b_book_of := b_book_of
    g_book_of := PySem.W.mg_of X G a_book_of
    f_l_pot := f_l_pot, fd_l_pot := _, F_l_pot := F_l_pot, b_l_pot := b_l_pot
    g_l_pot := PySem.W.mg_of X G a_l_pot
    f_l_take := f_l_take, fd_l_take := _, F_l_take := F_l_take, b_l_take := b_l_take
    g_l_take := PySem.W.mg_of X G a_l_take
    f_l_of := f_l_of, fd_l_of := _, F_l_of := F_l_of, b_l_of := b_l_of
    g_l_of := PySem.W.mg_of X G a_l_of
    f_l_some := f_l_some, fd_l_some := _, F_l_some := F_l_some, b_l_some := b_l_some
    g_l_some := PySem.W.mg_of X G a_l_some
    f_l_cells := f_l_cells, fd_l_cells := _, F_l_cells := F_l_cells, b_l_cells := b_l_cells
    g_l_cells := PySem.W.mg_of X G a_l_cells
    f_l_heard := f_l_heard, fd_l_heard := _, F_l_heard := F_l_heard, b_l_heard := b_l_heard
    g_l_heard := PySem.W.mg_of X G a_l_heard
    f_l_odd := f_l_odd, fd_l_odd := _, F_l_odd := F_l_odd, b_l_odd := b_l_odd
    g_l_odd := PySem.W.mg_of X G a_l_odd
    f_l_bent := f_l_bent, fd_l_bent := _, F_l_bent := F_l_bent, b_l_bent := b_l_bent
    g_l_bent := PySem.W.mg_of X G a_l_bent
    f_l_bent_line := f_l_bent_line, fd_l_bent_line := _, F_l_bent_line := F_l_bent_line, b_l_bent_line := b_l_bent_line
    g_l_bent_line := PySem.W.mg_of X G a_l_bent_line
    f_l_bent_text := f_l_bent_text, fd_l_bent_text := _, F_l_bent_text := F_l_bent_text, b_l_bent_text := b_l_bent_text
    g_l_bent_text := PySem.W.mg_of X G a_l_bent_text
    f_l_book_names := f_l_book_names, fd_l_book_names := _, F_l_book_names := F_l_book_names, b_l_book_names := b_l_book_names
    g_l_book_names := PySem.W.mg_of X G a_l_book_names
    f_l_book_weights := f_l_book_weights, fd_l_book_weights := _, F_l_book_weights := F_l_book_weights, b_l_book_weights := b_l_book_weights
    g_l_book_weights := PySem.W.mg_of X G a_l_book_weights
    f_l_book_table := f_l_book_table, fd_l_book_table := _, F_l_book_table := F_l_book_table, b_l_book_table := b_l_book_table
    g_l_book_table := PySem.W.mg_of X G a_l_book_table
    f_l_book_twinned := f_l_book_twinned, fd_l_book_twinned := _, F_l_book_twinned := F_l_book_twinned, b_l_book_twinned := b_l_book_twinned
    g_l_book_twinned := PySem.W.mg_of X G a_l_book_twinned
    f_l_book_of := f_l_book_of, fd_l_book_of := _, F_l_book_of := F_l_book_of, b_l_book_of := b_l_book_of
    g_l_book_of := PySem.W.mg_of X G a_l_book_of
    f_l_book_drawn := f_l_book_drawn, fd_l_book_drawn := _, F_l_book_drawn := F_l_book_drawn, b_l_book_drawn := b_l_book_drawn
    g_l_book_drawn := PySem.W.mg_of X G a_l_book_drawn
    f_l_book_text := f_l_book_text, fd_l_book_text := _, F_l_book_text := F_l_book_text, b_l_book_text := b_l_book_text
    g_l_book_text := PySem.W.mg_of X G a_l_book_text
    f_l_book_picked := f_l_book_picked, fd_l_book_picked := _, F_l_book_picked := F_l_book_picked, b_l_book_picked := b_l_book_picked
    g_l_book_picked := PySem.W.mg_of X G a_l_book_picked
    f_l_is_name := f_l_is_name, fd_l_is_name := _, F_l_is_name := F_l_is_name, b_l_is_name := b_l_is_name
    g_l_is_name := PySem.W.mg_of X G a_l_is_name
    f_l_are_names := f_l_are_names, fd_l_are_names := _, F_l_are_names := F_l_are_names, b_l_are_names := b_l_are_names
    g_l_are_names := PySem.W.mg_of X G a_l_are_names
    f_l_is_renamed_right := f_l_is_renamed_right, fd_l_is_renamed_right := _, F_l_is_renamed_right := F_l_is_renamed_right, b_l_is_renamed_right := b_l_is_renamed_right
    g_l_is_renamed_right := PySem.W.mg_of X G a_l_is_renamed_right
    f_l_some_names := f_l_some_names, fd_l_some_names := _, F_l_some_names := F_l_some_names, b_l_some_names := b_l_some_names
    g_l_some_names := PySem.W.mg_of X G a_l_some_names
    f_l_is_refusal := f_l_is_refusal, fd_l_is_refusal := _, F_l_is_refusal := F_l_is_refusal, b_l_is_refusal := b_l_is_refusal
    g_l_is_refusal := PySem.W.mg_of X G a_l_is_refusal
    f_l_is_asked_right := f_l_is_asked_right, fd_l_is_asked_right := _, F_l_is_asked_right := F_l_is_asked_right, b_l_is_asked_right := b_l_is_asked_right
    g_l_is_asked_right := PySem.W.mg_of X G a_l_is_asked_right
    f_l_right := f_l_right, fd_l_right := _, F_l_right := F_l_right, b_l_right := b_l_right
    g_l_right := PySem.W.mg_of X G a_l_right
    f_law := fa, fd_law := _, F_law := F_law, b_law := b_law
    g_law := PySem.W.mg_of X G a_law
    n_ValueError := PySem.W.mg_none_of X G n_ValueError
    n_abs := PySem.W.mg_none_of X G n_abs
    n_all := PySem.W.mg_none_of X G n_all
    n_bool := PySem.W.mg_none_of X G n_bool
    n_dict := PySem.W.mg_none_of X G n_dict
    n_enumerate := PySem.W.mg_none_of X G n_enumerate
    n_int := PySem.W.mg_none_of X G n_int
    n_isinstance := PySem.W.mg_none_of X G n_isinstance
    n_len := PySem.W.mg_none_of X G n_len
    n_list := PySem.W.mg_none_of X G n_list
    n_max := PySem.W.mg_none_of X G n_max
    n_min := PySem.W.mg_none_of X G n_min
    n_range := PySem.W.mg_none_of X G n_range
    n_repr := PySem.W.mg_none_of X G n_repr
    n_set := PySem.W.mg_none_of X G n_set
    n_str := PySem.W.mg_none_of X G n_str
    n_sum := PySem.W.mg_none_of X G n_sum
    n_tuple := PySem.W.mg_none_of X G n_tuple
    n_zip := PySem.W.mg_none_of X G n_zip
    m_LETTERS := ⟨_, PySem.W.mg_of X G m_LETTERS, ⟨_, rfl⟩⟩
    m_FIGURES := ⟨_, PySem.W.mg_of X G m_FIGURES, ⟨_, rfl⟩⟩
    m_MOST_MARKS := ⟨_, PySem.W.mg_of X G m_MOST_MARKS, ⟨_, rfl⟩⟩
    m_MOST_KINDS := ⟨_, PySem.W.mg_of X G m_MOST_KINDS, ⟨_, rfl⟩⟩
    m_GREATEST := by
      obtain ⟨v, e1, e2⟩ := hG
      cases e2
      exact ⟨_, e1, ⟨_, rfl⟩⟩
    a_PRIMES := aP, m_PRIMES := ⟨_, PySem.W.mg_of X G m_PRIMES, rfl⟩, sq_PRIMES := fun H => .inr ⟨_, uP, nP, l_PRIMES, rfl, rfl, Nat.le_trans z_PRIMES (by decide), v_PRIMES⟩
    c_BadBook := c_BadBook, g_BadBook := PySem.W.mg_of X G a_BadBook
    c_NoMark := c_NoMark, g_NoMark := PySem.W.mg_of X G a_NoMark
    c_NoKind := c_NoKind, g_NoKind := PySem.W.mg_of X G a_NoKind
    c_BadNames := c_BadNames, g_BadNames := PySem.W.mg_of X G a_BadNames
    c_GateError := c_GateError, g_GateError := PySem.W.mg_of X G a_GateError
    c_Book := c_Book, g_Book := PySem.W.mg_of X G a_Book }
  have XT : TxtX K mg T := {
    exB := ⟨⟨nmBadBook, qnBadBook, NnBadBook, bsBadBook, _, snBadBook, subBadBook, abBadBook, colBadBook, ddBadBook, x0BadBook, x1BadBook, x2BadBook, x3BadBook, x5BadBook, xL_BadBook, rfl⟩, e_saBadBook, e_exBadBook, e_tyBadBook, e_kpBadBook⟩
    inB := e_inBadBook
    tyI := e_tI
    noV := e_noBadBook
    xf := ⟨e_ga, e_gg, e_exBadBook, e_hd⟩
    ec := ⟨e_ga, e_gg, e_exBadBook, e_hd, e_ha, e_hn, e_ht, e_hm⟩
    te := PySem.W.exm_ref g_ex g_hd g_ty g_sb
    kt := if_pos (by simp)
    cl := ⟨b_pg, b_hd, b_po, b_sa⟩
    mkB := ⟨b_mk, a_Book_init, fn_Book_init, b_kp⟩
    na1 := b_n1
    na2 := b_n2
    na3 := b_n3
    na4 := b_n4
    na5 := b_n5
    na6 := b_n6
    ca := b_ca
    ob := b_ob
    kb := if_pos (by simp) }
  have XM : TxtM K mg T := {
    exM := ⟨⟨nmNoMark, qnNoMark, NnNoMark, bsNoMark, _, snNoMark, subNoMark, abNoMark, colNoMark, ddNoMark, x0NoMark, x1NoMark, x2NoMark, x3NoMark, x5NoMark, xL_NoMark, rfl⟩, e_saNoMark, e_exNoMark, e_tyNoMark, e_kpNoMark⟩
    inM := e_inNoMark
    noM := e_noNoMark
    exK := ⟨⟨nmNoKind, qnNoKind, NnNoKind, bsNoKind, _, snNoKind, subNoKind, abNoKind, colNoKind, ddNoKind, x0NoKind, x1NoKind, x2NoKind, x3NoKind, x5NoKind, xL_NoKind, rfl⟩, e_saNoKind, e_exNoKind, e_tyNoKind, e_kpNoKind⟩
    inK := e_inNoKind
    noK := e_noNoKind
    exN := ⟨⟨nmBadNames, qnBadNames, NnBadNames, bsBadNames, _, snBadNames, subBadNames, abBadNames, colBadNames, ddBadNames, x0BadNames, x1BadNames, x2BadNames, x3BadNames, x5BadNames, xL_BadNames, rfl⟩, e_saBadNames, e_exBadNames, e_tyBadNames, e_kpBadNames⟩
    inN := e_inBadNames
    noN := e_noBadNames
    xfM := ⟨o_gaNoMark, o_ggNoMark, e_exNoMark, o_hdNoMark⟩
    ecM := ⟨o_gaNoMark, o_ggNoMark, e_exNoMark, o_hdNoMark, o_haNoMark, e_hn, e_ht, o_hmNoMark⟩
    teM := PySem.W.exm_ref g_ex g_hd g_ty o_sbNoMark
    xfK := ⟨o_gaNoKind, o_ggNoKind, e_exNoKind, o_hdNoKind⟩
    ecK := ⟨o_gaNoKind, o_ggNoKind, e_exNoKind, o_hdNoKind, o_haNoKind, e_hn, e_ht, o_hmNoKind⟩
    teK := PySem.W.exm_ref g_ex g_hd g_ty o_sbNoKind
    xfN := ⟨o_gaBadNames, o_ggBadNames, e_exBadNames, o_hdBadNames⟩
    ecN := ⟨o_gaBadNames, o_ggBadNames, e_exBadNames, o_hdBadNames, o_haBadNames, e_hn, e_ht, o_hmBadNames⟩
    teN := PySem.W.exm_ref g_ex g_hd g_ty o_sbBadNames
    ktMM := if_pos (by simp)
    ktMK := kit_ref n_MK o_icNoKind e_tyNoKind s_MK
    ktKM := kit_ref n_MK.symm o_icNoMark e_tyNoMark s_KM
    ktKK := if_pos (by simp)
    ktNN := if_pos (by simp)
    eq := a_Book_eq
    eqF := fn_Book_eq
    ks := kit_own b_ic b_ty b_ss
    ct := a_Book_contains
    ctF := fn_Book_contains
    m_weight := ⟨a_Book_weight, fn_Book_weight, k_Book_weight⟩
    m_worth := ⟨a_Book_worth, fn_Book_worth, k_Book_worth⟩ }
  have J1 : JAt1 K mg T cJ1 := ⟨⟨_, _, _, _, _, _, _, _, rfl, l_l_is_renamed_right, c_l_is_renamed_right⟩⟩
  have J2 : JAt2 K mg T cJ2 := ⟨⟨_, _, _, _, _, _, _, _, rfl, l_l_is_asked_right, c_l_is_asked_right⟩⟩
  have two : ∀ {R : Addr × Addr → Prop}, R (cJ1, P1) → R (cJ2, P2) → ∀ t ∈ [(cJ1, P1), (cJ2, P2)], R t := fun h1 h2 t ht => by
    rcases List.mem_cons.mp ht with rfl | ht
    · exact h1
    · rw [List.mem_singleton.mp ht]
      exact h2
  refine ⟨T.fd_law, spLaw3 K P1 P2, [(cJ1, P1), (cJ2, P2)], two hP1 hP2, two j_no1 j_no2, two (PySem.W.codeHd_of_K X j_hd1) (PySem.W.codeHd_of_K X j_hd2), fun s u => .of_eq rfl, ?_, ?_⟩
  · intro H a ns hl hb hT hS
    refine ⟨a, ns, rfl, hS, hl, hb, fun q hq => ?_, fun _ => rfl⟩
    rcases List.mem_cons.mp hq with rfl | hq
    · exact .nil (hT _ List.mem_cons_self)
    · rw [List.mem_singleton.mp hq]
      exact .nil (hT _ (List.mem_cons_of_mem _ List.mem_cons_self))
  · intro base hK hN hTB
    exact ok_law (P := l.prog) (w := w) T XT XM J1 J2 (hTB _ List.mem_cons_self) (hTB _ (List.mem_cons_of_mem _ List.mem_cons_self)) j_ne
end OG
open PySem PySem.W PyProof.Rows in
set_option maxRecDepth 100000 in
set_option maxHeartbeats 0 in
theorem PySem.Challenge.cw_opengates_k03_books_renamed_and_what_boo_holds : PySem.Challenge.rw_opengates_k03_books_renamed_and_what_boo.Holds := by
  w_on; o_law; k_head; (case hw => w_witness2)
  k_fill
  refine OGX.walkGL (l := PySem.Challenge.rw_opengates_k03_books_renamed_and_what_boo) (n := 63) (k := 14) (x := "script") rfl (by decide) rfl ⟨rfl, by decide, by decide⟩ (fun w h Y => PySem.W.km_in_of Y) ?F
  case F =>
    intro w mg fa h Y X KX G hmg
    refine' OG.all_mk KX G hmg (X.2.val _ List.mem_cons_self) (PySem.W.km_tabs_of Y _ (List.mem_cons_of_mem _ List.mem_cons_self)) (PySem.W.km_tabs_of Y _ List.mem_cons_self) ?p_a_BadBook ?p_a_NoMark ?p_a_NoKind ?p_a_BadNames ?p_a_GateError ?p_a_Book ?p_a_is_integer ?p_l_is_integer ?p_c_is_integer ?p_k_is_integer ?p_a_is_by ?p_l_is_by ?p_c_is_by ?p_k_is_by ?p_a_GateError_init ?p_l_GateError_init ?p_c_GateError_init ?p_k_GateError_init ?p_a_integer_of ?p_l_integer_of ?p_c_integer_of ?p_k_integer_of ?p_a_is_letters ?p_l_is_letters ?p_c_is_letters ?p_k_is_letters ?p_a_is_of ?p_l_is_of ?p_c_is_of ?p_k_is_of ?p_a_Book_init ?p_l_Book_init ?p_c_Book_init ?p_k_Book_init ?p_a_Book_len ?p_l_Book_len ?p_c_Book_len ?p_k_Book_len ?p_a_Book_contains ?p_l_Book_contains ?p_c_Book_contains ?p_k_Book_contains ?p_a_Book_eq ?p_l_Book_eq ?p_c_Book_eq ?p_k_Book_eq ?p_a_Book_weight ?p_l_Book_weight ?p_c_Book_weight ?p_k_Book_weight ?p_a_Book_worth ?p_l_Book_worth ?p_c_Book_worth ?p_k_Book_worth ?p_a_renamed ?p_l_renamed ?p_c_renamed ?p_k_renamed ?p_a_read_book ?p_l_read_book ?p_c_read_book ?p_k_read_book ?p_a_read_by ?p_l_read_by ?p_c_read_by ?p_k_read_by ?p_a_is_mark ?p_l_is_mark ?p_c_is_mark ?p_k_is_mark ?p_a_is_kind ?p_l_is_kind ?p_c_is_kind ?p_k_is_kind ?p_a_is_number ?p_l_is_number ?p_c_is_number ?p_k_is_number ?p_a_are_names ?p_l_are_names ?p_c_are_names ?p_k_are_names ?p_a_table ?p_l_table ?p_c_table ?p_k_table ?p_a_book_of ?p_l_book_of ?p_c_book_of ?p_k_book_of ?p_a_l_pot ?p_l_l_pot ?p_c_l_pot ?p_k_l_pot ?p_a_l_take ?p_l_l_take ?p_c_l_take ?p_k_l_take ?p_a_l_of ?p_l_l_of ?p_c_l_of ?p_k_l_of ?p_a_l_some ?p_l_l_some ?p_c_l_some ?p_k_l_some ?p_a_l_cells ?p_l_l_cells ?p_c_l_cells ?p_k_l_cells ?p_a_l_heard ?p_l_l_heard ?p_c_l_heard ?p_k_l_heard ?p_a_l_odd ?p_l_l_odd ?p_c_l_odd ?p_k_l_odd ?p_a_l_bent ?p_l_l_bent ?p_c_l_bent ?p_k_l_bent ?p_a_l_bent_line ?p_l_l_bent_line ?p_c_l_bent_line ?p_k_l_bent_line ?p_a_l_bent_text ?p_l_l_bent_text ?p_c_l_bent_text ?p_k_l_bent_text ?p_a_l_book_names ?p_l_l_book_names ?p_c_l_book_names ?p_k_l_book_names ?p_a_l_book_weights ?p_l_l_book_weights ?p_c_l_book_weights ?p_k_l_book_weights ?p_a_l_book_table ?p_l_l_book_table ?p_c_l_book_table ?p_k_l_book_table ?p_a_l_book_twinned ?p_l_l_book_twinned ?p_c_l_book_twinned ?p_k_l_book_twinned ?p_a_l_book_of ?p_l_l_book_of ?p_c_l_book_of ?p_k_l_book_of ?p_a_l_book_drawn ?p_l_l_book_drawn ?p_c_l_book_drawn ?p_k_l_book_drawn ?p_a_l_book_text ?p_l_l_book_text ?p_c_l_book_text ?p_k_l_book_text ?p_a_l_book_picked ?p_l_l_book_picked ?p_c_l_book_picked ?p_k_l_book_picked ?p_a_l_is_name ?p_l_l_is_name ?p_c_l_is_name ?p_k_l_is_name ?p_a_l_are_names ?p_l_l_are_names ?p_c_l_are_names ?p_k_l_are_names ?p_a_l_is_renamed_right ?p_l_l_is_renamed_right ?p_c_l_is_renamed_right ?p_k_l_is_renamed_right ?p_a_l_some_names ?p_l_l_some_names ?p_c_l_some_names ?p_k_l_some_names ?p_a_l_is_refusal ?p_l_l_is_refusal ?p_c_l_is_refusal ?p_k_l_is_refusal ?p_a_l_is_asked_right ?p_l_l_is_asked_right ?p_c_l_is_asked_right ?p_k_l_is_asked_right ?p_a_l_right ?p_l_l_right ?p_c_l_right ?p_k_l_right ?p_a_law ?p_l_law ?p_c_law ?p_k_law ?p_n_ValueError ?p_n_abs ?p_n_all ?p_n_bool ?p_n_dict ?p_n_enumerate ?p_n_int ?p_n_isinstance ?p_n_len ?p_n_list ?p_n_max ?p_n_min ?p_n_range ?p_n_repr ?p_n_set ?p_n_str ?p_n_sum ?p_n_tuple ?p_n_zip ?p_m_LETTERS ?p_m_FIGURES ?p_m_MOST_MARKS ?p_m_MOST_KINDS ?p_m_PRIMES ?p_l_PRIMES ?p_v_PRIMES ?p_z_PRIMES ?p_xL_BadBook ?p_e_saBadBook ?p_e_exBadBook ?p_e_tyBadBook ?p_e_kpBadBook ?p_e_inBadBook ?p_e_noBadBook ?p_xL_NoMark ?p_e_saNoMark ?p_e_exNoMark ?p_e_tyNoMark ?p_e_kpNoMark ?p_e_inNoMark ?p_e_noNoMark ?p_xL_NoKind ?p_e_saNoKind ?p_e_exNoKind ?p_e_tyNoKind ?p_e_kpNoKind ?p_e_inNoKind ?p_e_noNoKind ?p_xL_BadNames ?p_e_saBadNames ?p_e_exBadNames ?p_e_tyBadNames ?p_e_kpBadNames ?p_e_inBadNames ?p_e_noBadNames ?p_e_tI ?p_e_ga ?p_e_gg ?p_e_hd ?p_e_ha ?p_e_hn ?p_e_ht ?p_e_hm ?p_g_ex ?p_g_hd ?p_g_ty ?p_o_gaNoMark ?p_o_ggNoMark ?p_o_hdNoMark ?p_o_haNoMark ?p_o_hmNoMark ?p_o_sbNoMark ?p_o_icNoMark ?p_o_gaNoKind ?p_o_ggNoKind ?p_o_hdNoKind ?p_o_haNoKind ?p_o_hmNoKind ?p_o_sbNoKind ?p_o_icNoKind ?p_o_gaBadNames ?p_o_ggBadNames ?p_o_hdBadNames ?p_o_haBadNames ?p_o_hmBadNames ?p_o_sbBadNames ?p_o_icBadNames ?p_s_MK ?p_s_KM ?p_n_MK ?p_b_ic ?p_b_ty ?p_b_ss ?p_g_sb ?p_b_pg ?p_b_hd ?p_b_po ?p_b_sa ?p_b_mk ?p_b_kp ?p_b_n1 ?p_b_n2 ?p_b_n3 ?p_b_n4 ?p_b_n5 ?p_b_n6 ?p_b_ca ?p_b_ob ?p_fn_Book_init ?p_fn_Book_len ?p_fn_Book_contains ?p_fn_Book_eq ?p_fn_Book_weight ?p_fn_Book_worth ?p_j_hd1 ?p_j_no1 ?p_j_hd2 ?p_j_no2 ?p_j_ne
    (case p_a_BadBook => k_is)
    (case p_a_NoMark => k_is)
    (case p_a_NoKind => k_is)
    (case p_a_BadNames => k_is)
    (case p_a_GateError => k_is)
    (case p_a_Book => k_is)
    (case p_a_is_integer => k_is)
    (case p_l_is_integer => k_is)
    (case p_c_is_integer => k_is)
    (case p_k_is_integer => k_is)
    (case p_a_is_by => k_is)
    (case p_l_is_by => k_is)
    (case p_c_is_by => k_is)
    (case p_k_is_by => k_is)
    (case p_a_GateError_init => k_is)
    (case p_l_GateError_init => k_is)
    (case p_c_GateError_init => k_is)
    (case p_k_GateError_init => k_is)
    (case p_a_integer_of => k_is)
    (case p_l_integer_of => k_is)
    (case p_c_integer_of => k_is)
    (case p_k_integer_of => k_is)
    (case p_a_is_letters => k_is)
    (case p_l_is_letters => k_is)
    (case p_c_is_letters => k_is)
    (case p_k_is_letters => k_is)
    (case p_a_is_of => k_is)
    (case p_l_is_of => k_is)
    (case p_c_is_of => k_is)
    (case p_k_is_of => k_is)
    (case p_a_Book_init => k_is)
    (case p_l_Book_init => k_is)
    (case p_c_Book_init => k_is)
    (case p_k_Book_init => k_is)
    (case p_a_Book_len => k_is)
    (case p_l_Book_len => k_is)
    (case p_c_Book_len => k_is)
    (case p_k_Book_len => k_is)
    (case p_a_Book_contains => k_is)
    (case p_l_Book_contains => k_is)
    (case p_c_Book_contains => k_is)
    (case p_k_Book_contains => k_is)
    (case p_a_Book_eq => k_is)
    (case p_l_Book_eq => k_is)
    (case p_c_Book_eq => k_is)
    (case p_k_Book_eq => k_is)
    (case p_a_Book_weight => k_is)
    (case p_l_Book_weight => k_is)
    (case p_c_Book_weight => k_is)
    (case p_k_Book_weight => k_is)
    (case p_a_Book_worth => k_is)
    (case p_l_Book_worth => k_is)
    (case p_c_Book_worth => k_is)
    (case p_k_Book_worth => k_is)
    (case p_a_renamed => k_is)
    (case p_l_renamed => k_is)
    (case p_c_renamed => k_is)
    (case p_k_renamed => k_is)
    (case p_a_read_book => k_is)
    (case p_l_read_book => k_is)
    (case p_c_read_book => k_is)
    (case p_k_read_book => k_is)
    (case p_a_read_by => k_is)
    (case p_l_read_by => k_is)
    (case p_c_read_by => k_is)
    (case p_k_read_by => k_is)
    (case p_a_is_mark => k_is)
    (case p_l_is_mark => k_is)
    (case p_c_is_mark => k_is)
    (case p_k_is_mark => k_is)
    (case p_a_is_kind => k_is)
    (case p_l_is_kind => k_is)
    (case p_c_is_kind => k_is)
    (case p_k_is_kind => k_is)
    (case p_a_is_number => k_is)
    (case p_l_is_number => k_is)
    (case p_c_is_number => k_is)
    (case p_k_is_number => k_is)
    (case p_a_are_names => k_is)
    (case p_l_are_names => k_is)
    (case p_c_are_names => k_is)
    (case p_k_are_names => k_is)
    (case p_a_table => k_is)
    (case p_l_table => k_is)
    (case p_c_table => k_is)
    (case p_k_table => k_is)
    (case p_a_book_of => k_is)
    (case p_l_book_of => k_is)
    (case p_c_book_of => k_is)
    (case p_k_book_of => k_is)
    (case p_a_l_pot => k_is)
    (case p_l_l_pot => k_is)
    (case p_c_l_pot => k_is)
    (case p_k_l_pot => k_is)
    (case p_a_l_take => k_is)
    (case p_l_l_take => k_is)
    (case p_c_l_take => k_is)
    (case p_k_l_take => k_is)
    (case p_a_l_of => k_is)
    (case p_l_l_of => k_is)
    (case p_c_l_of => k_is)
    (case p_k_l_of => k_is)
    (case p_a_l_some => k_is)
    (case p_l_l_some => k_is)
    (case p_c_l_some => k_is)
    (case p_k_l_some => k_is)
    (case p_a_l_cells => k_is)
    (case p_l_l_cells => k_is)
    (case p_c_l_cells => k_is)
    (case p_k_l_cells => k_is)
    (case p_a_l_heard => k_is)
    (case p_l_l_heard => k_is)
    (case p_c_l_heard => k_is)
    (case p_k_l_heard => k_is)
    (case p_a_l_odd => k_is)
    (case p_l_l_odd => k_is)
    (case p_c_l_odd => k_is)
    (case p_k_l_odd => k_is)
    (case p_a_l_bent => k_is)
    (case p_l_l_bent => k_is)
    (case p_c_l_bent => k_is)
    (case p_k_l_bent => k_is)
    (case p_a_l_bent_line => k_is)
    (case p_l_l_bent_line => k_is)
    (case p_c_l_bent_line => k_is)
    (case p_k_l_bent_line => k_is)
    (case p_a_l_bent_text => k_is)
    (case p_l_l_bent_text => k_is)
    (case p_c_l_bent_text => k_is)
    (case p_k_l_bent_text => k_is)
    (case p_a_l_book_names => k_is)
    (case p_l_l_book_names => k_is)
    (case p_c_l_book_names => k_is)
    (case p_k_l_book_names => k_is)
    (case p_a_l_book_weights => k_is)
    (case p_l_l_book_weights => k_is)
    (case p_c_l_book_weights => k_is)
    (case p_k_l_book_weights => k_is)
    (case p_a_l_book_table => k_is)
    (case p_l_l_book_table => k_is)
    (case p_c_l_book_table => k_is)
    (case p_k_l_book_table => k_is)
    (case p_a_l_book_twinned => k_is)
    (case p_l_l_book_twinned => k_is)
    (case p_c_l_book_twinned => k_is)
    (case p_k_l_book_twinned => k_is)
    (case p_a_l_book_of => k_is)
    (case p_l_l_book_of => k_is)
    (case p_c_l_book_of => k_is)
    (case p_k_l_book_of => k_is)
    (case p_a_l_book_drawn => k_is)
    (case p_l_l_book_drawn => k_is)
    (case p_c_l_book_drawn => k_is)
    (case p_k_l_book_drawn => k_is)
    (case p_a_l_book_text => k_is)
    (case p_l_l_book_text => k_is)
    (case p_c_l_book_text => k_is)
    (case p_k_l_book_text => k_is)
    (case p_a_l_book_picked => k_is)
    (case p_l_l_book_picked => k_is)
    (case p_c_l_book_picked => k_is)
    (case p_k_l_book_picked => k_is)
    (case p_a_l_is_name => k_is)
    (case p_l_l_is_name => k_is)
    (case p_c_l_is_name => k_is)
    (case p_k_l_is_name => k_is)
    (case p_a_l_are_names => k_is)
    (case p_l_l_are_names => k_is)
    (case p_c_l_are_names => k_is)
    (case p_k_l_are_names => k_is)
    (case p_a_l_is_renamed_right => k_is)
    (case p_l_l_is_renamed_right => k_is)
    (case p_c_l_is_renamed_right => k_is)
    (case p_k_l_is_renamed_right => k_is)
    (case p_a_l_some_names => k_is)
    (case p_l_l_some_names => k_is)
    (case p_c_l_some_names => k_is)
    (case p_k_l_some_names => k_is)
    (case p_a_l_is_refusal => k_is)
    (case p_l_l_is_refusal => k_is)
    (case p_c_l_is_refusal => k_is)
    (case p_k_l_is_refusal => k_is)
    (case p_a_l_is_asked_right => k_is)
    (case p_l_l_is_asked_right => k_is)
    (case p_c_l_is_asked_right => k_is)
    (case p_k_l_is_asked_right => k_is)
    (case p_a_l_right => k_is)
    (case p_l_l_right => k_is)
    (case p_c_l_right => k_is)
    (case p_k_l_right => k_is)
    (case p_a_law => k_is)
    (case p_l_law => k_is)
    (case p_c_law => k_is)
    (case p_k_law => k_is)
    (case p_n_ValueError => k_is)
    (case p_n_abs => k_is)
    (case p_n_all => k_is)
    (case p_n_bool => k_is)
    (case p_n_dict => k_is)
    (case p_n_enumerate => k_is)
    (case p_n_int => k_is)
    (case p_n_isinstance => k_is)
    (case p_n_len => k_is)
    (case p_n_list => k_is)
    (case p_n_max => k_is)
    (case p_n_min => k_is)
    (case p_n_range => k_is)
    (case p_n_repr => k_is)
    (case p_n_set => k_is)
    (case p_n_str => k_is)
    (case p_n_sum => k_is)
    (case p_n_tuple => k_is)
    (case p_n_zip => k_is)
    (case p_m_LETTERS => k_is)
    (case p_m_FIGURES => k_is)
    (case p_m_MOST_MARKS => k_is)
    (case p_m_MOST_KINDS => k_is)
    (case p_m_PRIMES => k_is)
    (case p_l_PRIMES => k_is)
    (case p_v_PRIMES => (repeat (first | exact .nil | refine .cons ⟨_, rfl⟩ ?_)))
    (case p_z_PRIMES => decide)
    (case p_xL_BadBook => k_is)
    (case p_e_saBadBook => k_is)
    (case p_e_exBadBook => k_is)
    (case p_e_tyBadBook => k_is)
    (case p_e_kpBadBook => k_is)
    (case p_e_inBadBook => k_is)
    (case p_e_noBadBook => k_is)
    (case p_xL_NoMark => k_is)
    (case p_e_saNoMark => k_is)
    (case p_e_exNoMark => k_is)
    (case p_e_tyNoMark => k_is)
    (case p_e_kpNoMark => k_is)
    (case p_e_inNoMark => k_is)
    (case p_e_noNoMark => k_is)
    (case p_xL_NoKind => k_is)
    (case p_e_saNoKind => k_is)
    (case p_e_exNoKind => k_is)
    (case p_e_tyNoKind => k_is)
    (case p_e_kpNoKind => k_is)
    (case p_e_inNoKind => k_is)
    (case p_e_noNoKind => k_is)
    (case p_xL_BadNames => k_is)
    (case p_e_saBadNames => k_is)
    (case p_e_exBadNames => k_is)
    (case p_e_tyBadNames => k_is)
    (case p_e_kpBadNames => k_is)
    (case p_e_inBadNames => k_is)
    (case p_e_noBadNames => k_is)
    (case p_e_tI => k_is)
    (case p_e_ga => k_is)
    (case p_e_gg => k_is)
    (case p_e_hd => k_is)
    (case p_e_ha => k_is)
    (case p_e_hn => k_is)
    (case p_e_ht => k_is)
    (case p_e_hm => k_is)
    (case p_g_ex => k_is)
    (case p_g_hd => k_is)
    (case p_g_ty => k_is)
    (case p_o_gaNoMark => k_is)
    (case p_o_ggNoMark => k_is)
    (case p_o_hdNoMark => k_is)
    (case p_o_haNoMark => k_is)
    (case p_o_hmNoMark => k_is)
    (case p_o_sbNoMark => k_is)
    (case p_o_icNoMark => k_is)
    (case p_o_gaNoKind => k_is)
    (case p_o_ggNoKind => k_is)
    (case p_o_hdNoKind => k_is)
    (case p_o_haNoKind => k_is)
    (case p_o_hmNoKind => k_is)
    (case p_o_sbNoKind => k_is)
    (case p_o_icNoKind => k_is)
    (case p_o_gaBadNames => k_is)
    (case p_o_ggBadNames => k_is)
    (case p_o_hdBadNames => k_is)
    (case p_o_haBadNames => k_is)
    (case p_o_hmBadNames => k_is)
    (case p_o_sbBadNames => k_is)
    (case p_o_icBadNames => k_is)
    (case p_s_MK => k_is)
    (case p_s_KM => k_is)
    (case p_n_MK => decide)
    (case p_b_ic => k_is)
    (case p_b_ty => k_is)
    (case p_b_ss => k_is)
    (case p_g_sb => k_is)
    (case p_b_pg => k_is)
    (case p_b_hd => k_is)
    (case p_b_po => k_is)
    (case p_b_sa => k_is)
    (case p_b_mk => k_is)
    (case p_b_kp => k_is)
    (case p_b_n1 => k_is)
    (case p_b_n2 => k_is)
    (case p_b_n3 => k_is)
    (case p_b_n4 => k_is)
    (case p_b_n5 => k_is)
    (case p_b_n6 => k_is)
    (case p_b_ca => k_is)
    (case p_b_ob => k_is)
    (case p_fn_Book_init => k_is)
    (case p_fn_Book_len => k_is)
    (case p_fn_Book_contains => k_is)
    (case p_fn_Book_eq => k_is)
    (case p_fn_Book_weight => k_is)
    (case p_fn_Book_worth => k_is)
    (case p_j_hd1 => kernel_rfl)
    (case p_j_no1 => kernel_rfl)
    (case p_j_hd2 => kernel_rfl)
    (case p_j_no2 => kernel_rfl)
    (case p_j_ne => decide)
